package clock_test

import (
	"math"
	"math/rand"
	"sort"
	"testing"

	"quayside/api"
	"quayside/clock"
	"quayside/samples"
)

// Numbers at the ends of the ranges that chapter 12 names, and of an int.
var (
	timeEdges  = samples.Around(-maxTime, 0, 3, 1000, 1<<20, 1<<32, maxTime/2, maxTime)
	termEdges  = samples.Around(-5, 0, 7, 1000, maxTerm)
	driftEdges = samples.Around(-maxPpm, 0, 10, 50000, maxPpm, parts, maxTime)
)

// drifts are within the range.
var drifts = []int{0, 1, 2, 9, 10, 100, 999, 1000, 12345, 33333, 50000, 90909, 99999, 100000}

func compareRead(t *testing.T, c clock.Clock, at int) {
	t.Helper()
	want, wantErr := referenceRead(c, at)
	if got, err := clock.Read(c, at); got != want || err != wantErr {
		t.Errorf("Read(%+v, %d) = %d, %v; want %d, %v", c, at, got, err, want, wantErr)
	}
}

func compareWithin(t *testing.T, c clock.Clock, ppm int) {
	t.Helper()
	if got, want := clock.Within(c, ppm), referenceWithin(c, ppm); got != want {
		t.Errorf("Within(%+v, %d) = %t; want %t", c, ppm, got, want)
	}
}

func compareElapsed(t *testing.T, d, ppm int) {
	t.Helper()
	wantLo, wantHi := referenceElapsed(d, ppm)
	if lo, hi := clock.Elapsed(d, ppm); lo != wantLo || hi != wantHi {
		t.Errorf("Elapsed(%d, %d) = %d, %d; want %d, %d", d, ppm, lo, hi, wantLo, wantHi)
	}
}

func compareLease(t *testing.T, l, ppm int) {
	t.Helper()
	if got, want := clock.Hold(l, ppm), referenceHold(l, ppm); got != want {
		t.Errorf("Hold(%d, %d) = %d; want %d", l, ppm, got, want)
	}
	if got, want := clock.Wait(l, ppm), referenceWait(l, ppm); got != want {
		t.Errorf("Wait(%d, %d) = %d; want %d", l, ppm, got, want)
	}
}

// keepElapsed checks P12.2 for the clock, which is within ppm.
func keepElapsed(t *testing.T, c clock.Clock, ppm, at, ticks int) {
	t.Helper()
	d := samples.Reading(c, at+ticks) - samples.Reading(c, at)
	if d > api.MaxTime {
		return
	}
	if lo, hi := clock.Elapsed(d, ppm); ticks < lo || ticks > hi {
		t.Errorf("%+v goes on by %d in the %d ticks from %d, but Elapsed(%d, %d) = %d, %d", c, d, ticks, at, d, ppm, lo, hi)
	}
}

// reaches returns the first true time from start on at which the clock has gone
// on by d since start, or the one after the last true time.
func reaches(c clock.Clock, start, d int) int {
	first := samples.Reading(c, start)
	return start + sort.Search(api.MaxTime+1-start, func(ticks int) bool {
		return samples.Reading(c, start+ticks)-first >= d
	})
}

// keepLease checks P12.3 for two clocks that are within ppm: when the issuer has
// waited, the holder, which begins at start, does not hold any more.
func keepLease(t *testing.T, holder, issuer clock.Clock, ppm, l, start, later int) {
	t.Helper()
	ends := reaches(holder, start, clock.Hold(l, ppm))
	free := reaches(issuer, start+later, clock.Wait(l, ppm))
	if ends > free {
		t.Errorf("lease of %d, ppm %d: %+v holds it from %d to before %d, but %+v has waited at %d", l, ppm, holder, start, ends, issuer, free)
	}
}

// leastDrift returns the least ppm that the clock is within, and whether there
// is one.
func leastDrift(c clock.Clock) (int, bool) {
	ppm := sort.Search(maxPpm+1, func(ppm int) bool { return referenceWithin(c, ppm) })
	return ppm, ppm <= maxPpm
}

// limitRates returns the slowest and the fastest clock that is within ppm, for
// each of the denominators.
func limitRates(ppm int, dens ...int) []clock.Clock {
	var list []clock.Clock
	for _, den := range dens {
		slow := clock.Clock{Offset: 7, Num: (den*(parts-ppm) + parts - 1) / parts, Den: den}
		fast := clock.Clock{Offset: 9, Num: min(den*(parts+ppm)/parts, maxTerm), Den: den}
		list = append(list, slow, fast)
	}
	return list
}

func TestRead(t *testing.T) { // P12.1
	for _, x := range []struct {
		c        clock.Clock
		at, want int
	}{
		{clock.Clock{Offset: 5, Num: 3, Den: 2}, 0, 5},
		{clock.Clock{Offset: 5, Num: 3, Den: 2}, 1, 6},
		{clock.Clock{Offset: 5, Num: 3, Den: 2}, 2, 8},
		{clock.Clock{Num: 1, Den: 1}, 12345, 12345},
		{clock.Clock{Offset: 1, Num: 9, Den: 10}, 9, 9},
		{clock.Clock{Offset: 1, Num: 9, Den: 10}, 10, 10},
		{clock.Clock{Num: 1, Den: maxTerm}, maxTerm - 1, 0},
		{clock.Clock{Num: 1, Den: maxTerm}, maxTerm, 1},
		{clock.Clock{Num: 1, Den: maxTerm}, api.MaxTime, 1 << 20},
		{clock.Clock{Offset: api.MaxTime, Num: 1, Den: 1}, api.MaxTime, 2 * api.MaxTime},
		{clock.Clock{Offset: api.MaxTime, Num: maxTerm, Den: 1}, api.MaxTime, api.MaxTime + 1<<60},
		{clock.Clock{Num: maxTerm, Den: 3}, api.MaxTime, 384307168202282325},
	} {
		if got, err := clock.Read(x.c, x.at); got != x.want || err != nil {
			t.Errorf("Read(%+v, %d) = %d, %v; want %d", x.c, x.at, got, err, x.want)
		}
		compareRead(t, x.c, x.at)
	}
}

func TestReadRefuses(t *testing.T) { // P12.1
	good := clock.Clock{Offset: 5, Num: 3, Den: 2}
	refuse := func(c clock.Clock, at int) {
		t.Helper()
		if got, err := clock.Read(c, at); got != 0 || err != api.ErrRange {
			t.Errorf("Read(%+v, %d) = %d, %v; want ErrRange", c, at, got, err)
		}
	}
	refuse(clock.Clock{}, 0)
	for _, n := range []int{-1, -api.MaxTime, math.MinInt, api.MaxTime + 1, 2 * api.MaxTime, math.MaxInt} {
		c := good
		c.Offset = n
		refuse(c, 1)
		refuse(good, n)
	}
	for _, n := range []int{0, -1, -3, math.MinInt, maxTerm + 1, api.MaxTime, math.MaxInt} {
		refuse(clock.Clock{Offset: 5, Num: n, Den: 2}, 1)
		refuse(clock.Clock{Offset: 5, Num: 3, Den: n}, 1)
		refuse(clock.Clock{Offset: 5, Num: n, Den: n}, 1)
	}
}

func TestReadOfSmallClocks(t *testing.T) { // P12.1
	for offset := -1; offset <= 2; offset++ {
		for num := -1; num <= 12; num++ {
			for den := -1; den <= 12; den++ {
				for at := -2; at <= 40; at++ {
					compareRead(t, clock.Clock{Offset: offset, Num: num, Den: den}, at)
				}
			}
		}
	}
}

func TestReadAtTheLimits(t *testing.T) { // P12.1
	for _, num := range termEdges {
		for _, den := range termEdges {
			for _, at := range timeEdges {
				for _, offset := range timeEdges {
					compareRead(t, clock.Clock{Offset: offset, Num: num, Den: den}, at)
				}
			}
		}
	}
}

func TestWithin(t *testing.T) { // P12.1
	for _, x := range []struct {
		num, den, ppm int
		want          bool
	}{
		{1, 1, 0, true}, {7, 7, 0, true}, {maxTerm, maxTerm, 0, true}, {7, 7, -5, true}, {7, 7, math.MinInt, true}, {7, 7, math.MaxInt, true},
		{11, 10, 100000, true}, {11, 10, 99999, false}, {9, 10, 100000, true}, {9, 10, 99999, false},
		{10, 11, 90910, true}, {10, 11, 90909, false}, {10, 9, 100000, false}, {10, 9, 1 << 30, false}, {10, 9, math.MaxInt, false}, {8, 9, math.MaxInt, false},
		{1001, 1000, 1000, true}, {1001, 1000, 999, false}, {999, 1000, 1000, true}, {999, 1000, 999, false},
		{1000001, 1000000, 1, true}, {1000001, 1000000, 0, false}, {999999, 1000000, 1, true}, {999999, 1000000, 0, false}, {1000001, 1000000, -1, false},
		{maxTerm, maxTerm - 1, 1, true}, {maxTerm, maxTerm - 1, 0, false}, {maxTerm - 1, maxTerm, 1, true}, {maxTerm - 1, maxTerm, 0, false},
		{1, 2, 100000, false}, {2, 1, 100000, false}, {1, maxTerm, 100000, false}, {maxTerm, 1, 100000, false},
		{0, 0, 100000, false}, {0, 1, 100000, false}, {1, 0, 100000, false}, {-1, -1, 100000, false}, {-7, -7, 0, false},
		{maxTerm + 1, maxTerm + 1, 0, false}, {maxTerm + 1, maxTerm, 100000, false}, {maxTerm, maxTerm + 1, 100000, false},
		{math.MaxInt, math.MaxInt, 0, false}, {math.MinInt, math.MinInt, 0, false}, {math.MinInt, math.MaxInt, 0, false},
	} {
		for _, offset := range []int{0, 5, -1, api.MaxTime + 1, math.MinInt, math.MaxInt} {
			c := clock.Clock{Offset: offset, Num: x.num, Den: x.den}
			if got := clock.Within(c, x.ppm); got != x.want {
				t.Errorf("Within(%+v, %d) = %t", c, x.ppm, got)
			}
			compareWithin(t, c, x.ppm)
		}
	}
}

func TestWithinForManyRates(t *testing.T) { // P12.1
	for num := -1; num <= 45; num++ {
		for den := -1; den <= 45; den++ {
			c := clock.Clock{Num: num, Den: den}
			for _, ppm := range driftEdges {
				compareWithin(t, c, ppm)
			}
			if ppm, found := leastDrift(c); found {
				compareWithin(t, c, ppm)
				compareWithin(t, c, ppm-1)
			}
		}
	}
	for _, num := range termEdges {
		for _, den := range termEdges {
			for _, ppm := range driftEdges {
				compareWithin(t, clock.Clock{Num: num, Den: den}, ppm)
			}
		}
	}
	for _, ppm := range drifts {
		for _, c := range limitRates(ppm, 10, 999, 1000, 1000000, maxTerm-1, maxTerm) {
			for _, num := range []int{c.Num - 1, c.Num, c.Num + 1} {
				compareWithin(t, clock.Clock{Num: num, Den: c.Den}, ppm)
			}
		}
	}
}

func TestElapsed(t *testing.T) { // P12.1
	for _, x := range []struct{ d, ppm, lo, hi int }{
		{0, 0, 0, 0}, {1, 0, 1, 1}, {10, 0, 10, 10}, {10, 100000, 9, 12},
		{0, 1, 0, 1}, {0, 100000, 0, 1}, {1, 1, 1, 2}, {1, 100000, 1, 2}, {2, 1, 1, 3}, {2, 100000, 1, 3}, {8, 100000, 7, 9}, {9, 100000, 8, 11}, {12, 100000, 11, 14},
		{1000, 1000, 999, 1002}, {1000001, 1, 1000000, 1000003}, {1000002, 1, 1000001, 1000004},
		{-1, 100000, 0, 1}, {-7, 0, 0, 0}, {math.MinInt, 100000, 0, 1}, {10, -1, 10, 10}, {10, math.MinInt, 10, 10}, {10, 100001, 9, 12}, {10, math.MaxInt, 9, 12},
		{api.MaxTime, 0, api.MaxTime, api.MaxTime}, {api.MaxTime + 1, 0, api.MaxTime, api.MaxTime}, {math.MaxInt, 0, api.MaxTime, api.MaxTime},
		{api.MaxTime, 100000, 999556025251, 1221679586418}, {math.MaxInt, math.MaxInt, 999556025251, 1221679586418},
	} {
		if lo, hi := clock.Elapsed(x.d, x.ppm); lo != x.lo || hi != x.hi {
			t.Errorf("Elapsed(%d, %d) = %d, %d; want %d, %d", x.d, x.ppm, lo, hi, x.lo, x.hi)
		}
		compareElapsed(t, x.d, x.ppm)
	}
}

func TestElapsedIsWhatIsPossible(t *testing.T) { // P12.1
	for _, ppm := range drifts {
		for d := range 150 {
			lo, hi := clock.Elapsed(d, ppm)
			for ticks := range 200 {
				if got, want := lo <= ticks && ticks <= hi, possible(ticks, d, ppm); got != want {
					t.Errorf("Elapsed(%d, %d) = %d, %d; but that %d is possible is %t", d, ppm, lo, hi, ticks, want)
				}
			}
		}
	}
}

func TestElapsedOfManyDifferences(t *testing.T) { // P12.1
	for _, ppm := range drifts {
		for d := -3; d < 3000; d++ {
			compareElapsed(t, d, ppm)
			compareElapsed(t, api.MaxTime+10-d, ppm)
		}
	}
	for ppm := -3; ppm <= maxPpm+3; ppm++ {
		for _, d := range []int{0, 1, 2, 12, 1000, 1000001, api.MaxTime - 1, api.MaxTime} {
			compareElapsed(t, d, ppm)
		}
	}
	for _, ppm := range driftEdges {
		for _, d := range timeEdges {
			compareElapsed(t, d, ppm)
		}
	}
}

func TestHoldAndWait(t *testing.T) { // P12.1
	for _, x := range []struct{ l, ppm, hold, wait int }{
		{1000, 100000, 900, 1100}, {1000, 0, 1000, 1000}, {1, 0, 1, 1}, {10, 0, 10, 10},
		{0, 0, 0, 0}, {0, 100000, 0, 0}, {-1, 0, 0, 0}, {-1000, 100000, 0, 0}, {math.MinInt, 100000, 0, 0},
		{1, 1, 0, 1}, {1, 100000, 0, 1}, {2, 1, 1, 3}, {2, 100000, 1, 3}, {10, 100000, 9, 11}, {11, 100000, 9, 12}, {12, 100000, 10, 14},
		{1000, 1000, 999, 1001}, {1001, 1000, 999, 1002}, {1002, 1000, 1000, 1004}, {1000000, 1, 999999, 1000001}, {1000001, 1, 999999, 1000002}, {1000002, 1, 1000000, 1000004},
		{1000, -1, 1000, 1000}, {1000, math.MinInt, 1000, 1000}, {1000, 100001, 900, 1100}, {1000, math.MaxInt, 900, 1100},
		{api.MaxTime, 0, api.MaxTime, api.MaxTime}, {api.MaxTime + 1, 0, api.MaxTime, api.MaxTime}, {math.MaxInt, 0, api.MaxTime, api.MaxTime},
		{api.MaxTime, 100000, 989560464998, 1209462790554}, {math.MaxInt, math.MaxInt, 989560464998, 1209462790554},
	} {
		if hold, wait := clock.Hold(x.l, x.ppm), clock.Wait(x.l, x.ppm); hold != x.hold || wait != x.wait {
			t.Errorf("Hold and Wait of %d, %d = %d, %d; want %d, %d", x.l, x.ppm, hold, wait, x.hold, x.wait)
		}
		compareLease(t, x.l, x.ppm)
	}
}

func TestHoldAndWaitOfManyLengths(t *testing.T) { // P12.1
	for _, ppm := range drifts {
		for l := -3; l < 1000; l++ {
			compareLease(t, l, ppm)
			compareLease(t, api.MaxTime+10-l, ppm)
		}
	}
	for ppm := -3; ppm <= maxPpm+3; ppm += 7 {
		for _, l := range []int{1, 12, 1000001, api.MaxTime} {
			compareLease(t, l, ppm)
		}
	}
	for _, ppm := range driftEdges {
		for _, l := range timeEdges {
			compareLease(t, l, ppm)
		}
	}
}

func TestHoldAndWaitByElapsed(t *testing.T) { // P12.1
	for _, ppm := range drifts {
		for l := range 200 {
			hold, wait := clock.Hold(l, ppm), clock.Wait(l, ppm)
			for d := range 300 {
				lo, hi := clock.Elapsed(d, ppm)
				if (hi < l) != (d < hold) {
					t.Errorf("Hold(%d, %d) = %d, but after %d at most %d ticks have passed", l, ppm, hold, d, hi)
				}
				if (lo >= l) != (d >= wait) {
					t.Errorf("Wait(%d, %d) = %d, but after %d at least %d ticks have passed", l, ppm, wait, d, lo)
				}
			}
		}
	}
}

func TestBefore(t *testing.T) { // P12.1
	for _, x := range []struct {
		a, b [2]int
		want bool
	}{
		{[2]int{1, 2}, [2]int{3, 3}, true},
		{[2]int{1, 3}, [2]int{3, 4}, false},
		{[2]int{3, 3}, [2]int{1, 2}, false},
		{[2]int{2, 2}, [2]int{2, 2}, false},
		{[2]int{2, 1}, [2]int{3, 3}, false},
		{[2]int{1, 1}, [2]int{3, 2}, false},
		{[2]int{1, 1}, [2]int{4, 3}, false},
		{[2]int{-5, -4}, [2]int{-3, -3}, true},
	} {
		if got := clock.Before(x.a, x.b); got != x.want {
			t.Errorf("Before(%d, %d) = %t", x.a, x.b, got)
		}
	}
	// Only the order of the times matters, so that the reference compares their
	// places in the list.
	list := []int{math.MinInt, -1, 0, 1, api.MaxTime, math.MaxInt}
	for i := range len(list) * len(list) * len(list) * len(list) {
		a := [2]int{i % len(list), i / len(list) % len(list)}
		b := [2]int{i / len(list) / len(list) % len(list), i / len(list) / len(list) / len(list)}
		x, y := [2]int{list[a[0]], list[a[1]]}, [2]int{list[b[0]], list[b[1]]}
		if got, want := clock.Before(x, y), referenceBefore(a, b); got != want {
			t.Errorf("Before(%d, %d) = %t; want %t", x, y, got, want)
		}
	}
}

func TestTicksLieWithinElapsed(t *testing.T) { // P12.2
	for den := 1; den <= 25; den++ {
		for num := 1; num <= 30; num++ {
			c := clock.Clock{Offset: num, Num: num, Den: den}
			least, found := leastDrift(c)
			if !found {
				continue
			}
			for _, ppm := range []int{least, least + 1, maxPpm} {
				for at := range den + 1 {
					for ticks := range 120 {
						keepElapsed(t, c, ppm, at, ticks)
					}
				}
			}
		}
	}
}

func TestManyTicksLieWithinElapsed(t *testing.T) { // P12.2
	random := rand.New(rand.NewSource(1))
	for _, ppm := range drifts {
		for _, c := range limitRates(ppm, 1, 10, 11, 1000, 1000000, maxTerm-1, maxTerm) {
			if !clock.Within(c, ppm) {
				t.Errorf("Within(%+v, %d) is false", c, ppm)
			}
			for range 300 {
				ticks := random.Intn(api.MaxTime + 1)
				if random.Intn(2) == 0 {
					ticks = random.Intn(1 << (1 + random.Intn(40)))
				}
				keepElapsed(t, c, ppm, random.Intn(api.MaxTime+1-ticks), ticks)
			}
			keepElapsed(t, c, ppm, 0, api.MaxTime)
			keepElapsed(t, c, ppm, 0, api.MaxTime-1)
			keepElapsed(t, c, ppm, 0, api.MaxTime*9/10)
			keepElapsed(t, c, ppm, api.MaxTime, 0)
		}
	}
}

func TestNoHolderHoldsWhatWasWaitedFor(t *testing.T) { // P12.3
	exact := clock.Clock{Num: 1, Den: 1}
	for _, x := range []struct {
		ppm    int
		clocks []clock.Clock
	}{
		{0, []clock.Clock{exact, {Offset: 3, Num: 7, Den: 7}}},
		{100000, append(limitRates(100000, 10, 11, 12), exact)},
		{50000, append(limitRates(50000, 20, 21), exact)},
		{1000, append(limitRates(1000, 1000), exact)},
	} {
		for _, holder := range x.clocks {
			for _, issuer := range x.clocks {
				for l := range 25 {
					for start := range 21 {
						for later := range 3 {
							holdsWhileWaiting(t, holder, issuer, x.ppm, l, start, later)
						}
					}
				}
			}
		}
	}
}

// holdsWhileWaiting checks P12.3 at each moment of a short lease.
func holdsWhileWaiting(t *testing.T, holder, issuer clock.Clock, ppm, l, start, later int) {
	t.Helper()
	hold, wait := clock.Hold(l, ppm), clock.Wait(l, ppm)
	first, second := samples.Reading(holder, start), samples.Reading(issuer, start+later)
	for at := start + later; at < start+later+2*l+5; at++ {
		holds := samples.Reading(holder, at)-first < hold
		waited := samples.Reading(issuer, at)-second >= wait
		if holds && waited {
			t.Errorf("lease of %d, ppm %d: at %d, %+v holds it since %d, and %+v has waited since %d", l, ppm, at, holder, start, issuer, start+later)
		}
	}
}

func TestNoHolderHoldsLongLeases(t *testing.T) { // P12.3
	random := rand.New(rand.NewSource(2))
	for _, ppm := range drifts {
		clocks := limitRates(ppm, 1, 10, 999, 1000000, maxTerm)
		for _, holder := range clocks {
			for _, issuer := range clocks {
				for range 30 {
					l := random.Intn(1 << (1 + random.Intn(40)))
					start := random.Intn(api.MaxTime / 2)
					keepLease(t, holder, issuer, ppm, l, start, random.Intn(1<<random.Intn(10)))
				}
				for _, l := range []int{0, 1, 2, 1000000, api.MaxTime / 4, api.MaxTime, math.MaxInt} {
					keepLease(t, holder, issuer, ppm, l, 0, 0)
				}
			}
		}
	}
}

// randomNumber returns a number of any size and sign.
func randomNumber(random *rand.Rand) int {
	return int(random.Uint64()) >> random.Intn(64)
}

// randomClock returns a clock that is valid and whose drift is small more often
// than not.
func randomClock(random *rand.Rand) clock.Clock {
	if random.Intn(8) == 0 {
		return clock.Clock{Offset: randomNumber(random), Num: randomNumber(random), Den: randomNumber(random)}
	}
	den := 1 + random.Intn(1<<(1+random.Intn(20)))
	return clock.Clock{Offset: random.Intn(api.MaxTime + 1), Num: den - den/9 + random.Intn(den/4+1), Den: den}
}

func TestRandom(t *testing.T) { // P12.1, P12.2
	random := rand.New(rand.NewSource(3))
	for range 20000 {
		c := randomClock(random)
		ppm := randomNumber(random) % (1 << (1 + random.Intn(20)))
		compareRead(t, c, randomNumber(random))
		compareRead(t, c, random.Intn(api.MaxTime+1))
		compareWithin(t, c, ppm)
		compareElapsed(t, randomNumber(random), ppm)
		compareElapsed(t, random.Intn(api.MaxTime+1), random.Intn(maxPpm+1))
		compareLease(t, random.Intn(api.MaxTime+1), random.Intn(maxPpm+1))
		if _, err := clock.Read(c, 0); err == nil && clock.Within(c, ppm) {
			ticks := random.Intn(1 << (1 + random.Intn(39)))
			keepElapsed(t, c, ppm, random.Intn(api.MaxTime/2), ticks)
		}
	}
}

func FuzzClocks(f *testing.F) { // P12.1, P12.2, P12.3
	f.Add(5, 11, 10, 20, 1000, 100000)
	f.Add(0, 1<<20-1, 1<<20, 1<<40, 1<<40, 1)
	f.Add(-1, 0, -1, -1, -1, -1)
	f.Fuzz(func(t *testing.T, offset, num, den, at, n, ppm int) {
		c := clock.Clock{Offset: offset, Num: num, Den: den}
		compareRead(t, c, at)
		compareWithin(t, c, ppm)
		compareElapsed(t, n, ppm)
		compareLease(t, n, ppm)
		if _, err := clock.Read(c, at); err != nil || !clock.Within(c, ppm) {
			return
		}
		keepElapsed(t, c, ppm, 0, at)
		keepElapsed(t, c, ppm, at, min(clip(n, maxTime), maxTime-at))
		exact := clock.Clock{Num: 1, Den: 1}
		keepLease(t, c, exact, ppm, n, at, 0)
		keepLease(t, exact, c, ppm, n, at, 0)
		keepLease(t, c, c, ppm, n, at, min(3, maxTime-at))
	})
}
