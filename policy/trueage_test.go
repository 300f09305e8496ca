package policy_test

import (
	"math/rand"
	"testing"

	"quayside/age"
	"quayside/clock"
	"quayside/directive"
	"quayside/lifetime"
	"quayside/policy"
	"quayside/samples"
)

// The tests of this file know the true times, the caches only their clocks.

// copied is a response that was made at a true time and received by a cache at
// another one.
type copied struct {
	made, received int
	clock          clock.Clock
	times          age.Times
}

// receive returns the copy of a cache with the clock, of a response that was
// made or passed on at the true time sent. The request and the response took so
// many ticks.
func receive(c clock.Clock, made, sent, seconds int, took [2]int) copied {
	times := age.Times{Sent: samples.Reading(c, sent-took[0]), Received: samples.Reading(c, sent+took[1]), Age: seconds}
	return copied{made: made, received: sent + took[1], clock: c, times: times}
}

// passOn returns the copy of a second cache, which got the response from the
// first one so many ticks after that had received it.
func passOn(t *testing.T, x copied, c clock.Clock, wait, ppm int, took [2]int) copied {
	t.Helper()
	sent := x.received + wait
	seconds, err := age.Field(x.times, samples.Reading(x.clock, sent), ppm)
	if err != nil {
		t.Fatalf("Field(%+v): %v", x.times, err)
	}
	return receive(c, x.made, sent, seconds, took)
}

// keepTrueAge checks P17.2 about the true ages at which the verdicts change.
func keepTrueAge(t *testing.T, x copied, ppm int, value string) {
	t.Helper()
	s := policy.Stored{Status: 200, Fields: control(value), Times: x.times}
	life, _ := lifetime.Of(200, s.Fields)
	limit := policy.Limit(s)
	for _, trueAge := range []int{life, limit, (life + limit) / 2} {
		// At later times, a clock may show more than MaxTime.
		trueAge = min(trueAge, 1<<39)
		for at := max(x.made+trueAge-3, x.received); at <= x.made+trueAge+3; at++ {
			keepTrueAgeAt(t, x, ppm, s, at, life, limit)
		}
	}
}

func keepTrueAgeAt(t *testing.T, x copied, ppm int, s policy.Stored, at, life, limit int) {
	t.Helper()
	now := samples.Reading(x.clock, at)
	verdict := policy.Judge(s, directive.None(), now, ppm)
	if verdict == policy.Serve && at-x.made >= life {
		t.Errorf("Judge(%s, %d, %d) = Serve by %+v, though the true age is %d", show(s), now, ppm, x.clock, at-x.made)
	}
	served := verdict == policy.Serve || verdict == policy.Refresh || policy.OnError(s, now, ppm)
	if served && at-x.made >= limit {
		t.Errorf("%s is served at %d, with %d, by %+v, though the true age is %d", show(s), now, ppm, x.clock, at-x.made)
	}
}

var values = []string{
	"max-age=0", "max-age=2", "s-maxage=1", "stale-while-revalidate=1", "stale-if-error=1", "max-age=2, stale-while-revalidate=1",
	"max-age=2, stale-if-error=3", "max-age=1, stale-while-revalidate=3, stale-if-error=2, must-revalidate", "max-age=9, no-cache, stale-if-error=5",
}

func TestTrueAge(t *testing.T) { // P17.2
	delays := [][2]int{{0, 0}, {0, 1}, {1, 0}, {700, 0}, {0, 700}, {999, 1000}}
	for _, ppm := range []int{0, 1000, 100000} {
		for _, first := range samples.Clocks(ppm) {
			for _, took := range delays {
				x := receive(first, 50000, 50000, -1, took)
				for _, value := range values {
					keepTrueAge(t, x, ppm, value)
				}
				for _, second := range samples.Clocks(ppm) {
					for _, wait := range []int{0, 1, 500, 999} {
						for _, value := range values {
							keepTrueAge(t, passOn(t, x, second, wait, ppm, took), ppm, value)
						}
					}
				}
			}
		}
	}
}

func TestTrueAgeInChains(t *testing.T) { // P17.2
	random := rand.New(rand.NewSource(2))
	for range 20000 {
		ppm := 100 * random.Intn(1001)
		clocks := samples.Clocks(ppm)
		size := 1 + random.Intn(20)
		delay := func() int { return random.Intn(1 << random.Intn(size)) }
		x := receive(clocks[random.Intn(3)], 1<<20, 1<<20, -1, [2]int{delay(), delay()})
		for range random.Intn(4) {
			x = passOn(t, x, clocks[random.Intn(3)], delay(), ppm, [2]int{delay(), delay()})
		}
		keepTrueAge(t, x, ppm, values[random.Intn(len(values))])
		keepTrueAge(t, x, ppm, randomControl(random))
	}
}
