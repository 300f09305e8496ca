package age_test

import (
	"math/rand"
	"testing"

	"quayside/age"
	"quayside/clock"
	"quayside/samples"
)

// A response that was made at a true time is passed on by a chain of caches. The
// tests of this file know the true times, the caches only their clocks.

// cache has received the response.
type cache struct {
	clock    clock.Clock
	times    age.Times
	received int // the true time of it
}

// link is how the response came to a cache: it was answered that long after the
// cache before had received it (for the first cache: made), the request was sent
// that long before that, and the response received that long after it.
type link struct {
	clock                 clock.Clock
	wait, request, answer int
}

// reading returns what the clock, which is valid, shows at a true time.
func reading(t *testing.T, c clock.Clock, at int) int {
	t.Helper()
	n := samples.Reading(c, at)
	if n > maxTime {
		t.Fatalf("%+v shows %d at %d", c, n, at)
	}
	return n
}

// receive returns the cache to which the link leads.
func receive(t *testing.T, l link, answered, seconds int) cache {
	t.Helper()
	received := answered + l.answer
	times := age.Times{
		Sent:     reading(t, l.clock, max(answered-l.request, 0)),
		Received: reading(t, l.clock, received),
		Age:      seconds,
	}
	return cache{clock: l.clock, times: times, received: received}
}

// keepChain checks P13.2 and P13.3 at each cache of the chain: when it receives
// the response, when it passes it on, and so long after each of them.
func keepChain(t *testing.T, made, ppm int, links []link, later ...int) {
	t.Helper()
	answered, seconds := made, -1
	for i, l := range links {
		c := receive(t, l, answered, seconds)
		keepAge(t, c, made, ppm, c.received)
		for _, ticks := range later {
			keepAge(t, c, made, ppm, c.received+ticks)
		}
		if i+1 == len(links) {
			return
		}
		answered = c.received + links[i+1].wait
		keepAge(t, c, made, ppm, answered)
		var err error
		seconds, err = age.Field(c.times, reading(t, c.clock, answered), ppm)
		if err != nil {
			t.Fatalf("Field(%+v): %v", c.times, err)
		}
	}
}

// keepAge checks P13.2 and P13.3 at a true time at one cache.
func keepAge(t *testing.T, c cache, made, ppm, at int) {
	t.Helper()
	trueAge, now := at-made, reading(t, c.clock, at)
	lo, hi, err := age.At(c.times, now, ppm)
	if err != nil || trueAge < lo || trueAge > hi {
		t.Errorf("At(%+v, %d, %d) = %d, %d, %v by %+v; the true age is %d", c.times, now, ppm, lo, hi, err, c.clock, trueAge)
	}
	for _, lifetime := range []int{lo, trueAge - 1, trueAge} {
		if age.Fresh(c.times, now, ppm, lifetime) {
			t.Errorf("Fresh(%+v, %d, %d, %d) by %+v; the true age is %d", c.times, now, ppm, lifetime, c.clock, trueAge)
		}
	}
	for _, lifetime := range []int{trueAge + 1, trueAge + 2, hi + 1} {
		if age.Stale(c.times, now, ppm, lifetime) {
			t.Errorf("Stale(%+v, %d, %d, %d) by %+v; the true age is %d", c.times, now, ppm, lifetime, c.clock, trueAge)
		}
	}
}

func TestAgeLiesBetweenTheBounds(t *testing.T) { // P13.2, P13.3
	delays := []int{0, 1, 999, 1000}
	for _, ppm := range []int{0, 100, 100000} {
		var links []link
		for _, c := range samples.Clocks(ppm) {
			for i := range len(delays) * len(delays) * len(delays) {
				wait, request, answer := delays[i%4], delays[i/4%4], delays[i/16]
				links = append(links, link{clock: c, wait: wait, request: request, answer: answer})
			}
		}
		for _, first := range links {
			for _, second := range links {
				keepChain(t, 5000, ppm, []link{first, second}, 1, 10, 999)
			}
		}
	}
}

func TestAgeAtEachMoment(t *testing.T) { // P13.2, P13.3
	for _, ppm := range []int{0, 1000, 100000} {
		for _, first := range samples.Clocks(ppm) {
			for _, second := range samples.Clocks(ppm) {
				for wait := range 1200 {
					links := []link{{clock: first, request: 2, answer: 3}, {clock: second, wait: wait, request: 700, answer: 1}}
					keepChain(t, 100, ppm, links, wait, 2*wait)
				}
			}
		}
	}
}

// randomClock returns a clock within ppm, a multiple of 100, often one of the
// slowest or fastest.
func randomClock(random *rand.Rand, ppm int) clock.Clock {
	const den = 10000
	most := ppm / 100
	by := min(max(random.Intn(4*most+1)-2*most, -most), most)
	return clock.Clock{Offset: random.Intn(maxTime / 4), Num: den + by, Den: den}
}

func TestAgeInLongChains(t *testing.T) { // P13.2, P13.3
	random := rand.New(rand.NewSource(2))
	for range 3000 {
		ppm := 100 * random.Intn(maxPpm/100+1)
		size := 2 + random.Intn(33)
		delay := func() int { return random.Intn(1 << random.Intn(size)) }
		links := make([]link, 1+random.Intn(12))
		for i := range links {
			links[i] = link{clock: randomClock(random, ppm), wait: delay(), request: delay(), answer: delay()}
		}
		keepChain(t, delay(), ppm, links, 1, delay(), delay())
	}
}

func TestAgeInTheLongestTimes(t *testing.T) { // P13.2, P13.3
	slow, fast := clock.Clock{Num: 9, Den: 10}, clock.Clock{Num: 11, Den: 10}
	half := maxTime / 11 * 10 / 2 // the fast clock still shows twice this time
	for _, first := range []clock.Clock{slow, fast} {
		for _, second := range []clock.Clock{slow, fast} {
			keepChain(t, 0, maxPpm, []link{{clock: first}, {clock: second, wait: half, request: half}}, 0, 1, half)
			keepChain(t, 0, maxPpm, []link{{clock: first, answer: half}, {clock: second, wait: half}}, 0)
		}
	}
}
