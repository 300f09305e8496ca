package age_test

import (
	"math"
	"math/rand"
	"testing"

	"quayside/age"
	"quayside/api"
	"quayside/samples"
)

// drifts are within the range.
var drifts = []int{0, 1, 2, 10, 999, 1000, 33333, 50000, 90909, 99999, 100000}

func compareBounds(t *testing.T, x age.Times, now, ppm int) {
	t.Helper()
	wantLo, wantHi, wantErr := referenceAt(x, now, ppm)
	if lo, hi, err := age.At(x, now, ppm); lo != wantLo || hi != wantHi || err != wantErr {
		t.Errorf("At(%+v, %d, %d) = %d, %d, %v; want %d, %d, %v", x, now, ppm, lo, hi, err, wantLo, wantHi, wantErr)
	}
	want, wantErr := referenceField(x, now, ppm)
	if got, err := age.Field(x, now, ppm); got != want || err != wantErr {
		t.Errorf("Field(%+v, %d, %d) = %d, %v; want %d, %v", x, now, ppm, got, err, want, wantErr)
	}
}

func compareLifetime(t *testing.T, x age.Times, now, ppm, lifetime int) {
	t.Helper()
	fresh, stale := age.Fresh(x, now, ppm, lifetime), age.Stale(x, now, ppm, lifetime)
	if want := referenceFresh(x, now, ppm, lifetime); fresh != want {
		t.Errorf("Fresh(%+v, %d, %d, %d) = %t; want %t", x, now, ppm, lifetime, fresh, want)
	}
	if want := referenceStale(x, now, ppm, lifetime); stale != want {
		t.Errorf("Stale(%+v, %d, %d, %d) = %t; want %t", x, now, ppm, lifetime, stale, want)
	}
	if fresh && stale {
		t.Errorf("Fresh and Stale(%+v, %d, %d, %d)", x, now, ppm, lifetime)
	}
	want := referenceLeft(x, now, ppm, lifetime)
	if got := age.Left(x, now, ppm, lifetime); got != want {
		t.Errorf("Left(%+v, %d, %d, %d) = %d; want %d", x, now, ppm, lifetime, got, want)
	}
}

// compare compares all functions, with the lifetimes that the bounds and the
// last reading make interesting.
func compare(t *testing.T, x age.Times, now, ppm int) {
	t.Helper()
	compareBounds(t, x, now, ppm)
	lo, hi, _ := referenceAt(x, now, ppm)
	_, last, _ := referenceAt(x, maxTime, ppm)
	for _, n := range []int{lo, hi, last} {
		for lifetime := n - 1; lifetime <= n+2; lifetime++ {
			compareLifetime(t, x, now, ppm, lifetime)
		}
	}
	compareLifetime(t, x, now, ppm, math.MinInt)
	compareLifetime(t, x, now, ppm, 0)
	compareLifetime(t, x, now, ppm, math.MaxInt)
}

// refuse expects of all functions what they return where At returns ErrOrder.
func refuse(t *testing.T, x age.Times, now, ppm int) {
	t.Helper()
	if lo, hi, err := age.At(x, now, ppm); lo != 0 || hi != 0 || err != api.ErrOrder {
		t.Errorf("At(%+v, %d, %d) = %d, %d, %v; want ErrOrder", x, now, ppm, lo, hi, err)
	}
	if n, err := age.Field(x, now, ppm); n != 0 || err != api.ErrOrder {
		t.Errorf("Field(%+v, %d, %d) = %d, %v; want ErrOrder", x, now, ppm, n, err)
	}
	for _, lifetime := range []int{math.MinInt, -1, 0, 1, maxTime, math.MaxInt} {
		if age.Fresh(x, now, ppm, lifetime) || age.Stale(x, now, ppm, lifetime) {
			t.Errorf("Fresh or Stale(%+v, %d, %d, %d)", x, now, ppm, lifetime)
		}
		if n := age.Left(x, now, ppm, lifetime); n != 0 {
			t.Errorf("Left(%+v, %d, %d, %d) = %d", x, now, ppm, lifetime, n)
		}
	}
}

func TestAtAndField(t *testing.T) { // P13.1
	none, seven := age.Times{Sent: 1000, Received: 1500, Age: -1}, age.Times{Sent: 1000, Received: 1500, Age: 7}
	for _, c := range []struct {
		x                      age.Times
		now, ppm, lo, hi, want int
	}{
		{none, 3000, 0, 1500, 2000, 2},
		{seven, 3000, 0, 1500, 10000, 10},
		{none, 1500, 0, 0, 500, 0},
		{none, 1999, 0, 499, 999, 0},
		{none, 2000, 0, 500, 1000, 1},
		{none, 2001, 0, 501, 1001, 1},
		{none, 2999, 0, 1499, 1999, 1},
		{none, 3000, 100000, 1363, 2223, 2},
		{none, 3000, 1, 1499, 2001, 2},
		{seven, 3000, 100000, 1363, 10223, 10},
		{age.Times{}, 0, 0, 0, 1000, 1},
		{age.Times{Age: -1}, 0, 0, 0, 0, 0},
		{age.Times{Age: -1}, 0, 100000, 0, 1, 0},
		{age.Times{Age: 1}, 0, 0, 0, 2000, 2},
		{age.Times{Age: 1}, 999, 0, 999, 2999, 2},
		{age.Times{Age: -1}, api.MaxTime, 0, 1099511627776, 1099511627776, 1099511627},
		{age.Times{Age: -1}, api.MaxTime, 100000, 999556025251, 1221679586418, 1221679586},
		{age.Times{Age: longest}, api.MaxTime, 100000, 999556025251, 3369163234418, 3369163234},
	} {
		if lo, hi, err := age.At(c.x, c.now, c.ppm); lo != c.lo || hi != c.hi || err != nil {
			t.Errorf("At(%+v, %d, %d) = %d, %d, %v; want %d, %d", c.x, c.now, c.ppm, lo, hi, err, c.lo, c.hi)
		}
		if got, err := age.Field(c.x, c.now, c.ppm); got != c.want || err != nil {
			t.Errorf("Field(%+v, %d, %d) = %d, %v; want %d", c.x, c.now, c.ppm, got, err, c.want)
		}
		compare(t, c.x, c.now, c.ppm)
	}
}

func TestOrder(t *testing.T) { // P13.1
	for _, c := range []struct{ sent, received, now int }{
		{2, 1, 1}, {2, 1, 2}, {2, 1, 3}, {1, 3, 2}, {3, 2, 1}, {1, 0, 0}, {0, 1, 0}, {2, 3, 1}, {1, 2, math.MinInt},
		{api.MaxTime, api.MaxTime - 1, api.MaxTime}, {0, api.MaxTime, api.MaxTime - 1}, {math.MaxInt, 5, 6}, {4, math.MaxInt, 6}, {1, -1, 5},
	} {
		for _, seconds := range []int{math.MinInt, -1, 0, 7, math.MaxInt} {
			for _, ppm := range []int{-1, 0, 100000, math.MaxInt} {
				refuse(t, age.Times{Sent: c.sent, Received: c.received, Age: seconds}, c.now, ppm)
			}
		}
	}
}

func TestArgumentsAreClipped(t *testing.T) { // P13.1
	for _, c := range []struct {
		x        age.Times
		now, ppm int
		same     age.Times
		at       int
	}{
		{age.Times{Sent: -1, Received: -9, Age: -1}, -99, 0, age.Times{Age: -1}, 0},
		{age.Times{Sent: math.MinInt, Received: 3, Age: 2}, 5, 1000, age.Times{Received: 3, Age: 2}, 5},
		{age.Times{Sent: math.MinInt, Received: math.MinInt, Age: math.MinInt}, math.MaxInt, 99, age.Times{Age: -1}, api.MaxTime},
		{age.Times{Sent: 4, Received: 5, Age: -7}, api.MaxTime + 1, 100000, age.Times{Sent: 4, Received: 5, Age: -1}, api.MaxTime},
		{age.Times{Sent: math.MaxInt, Received: api.MaxTime + 3, Age: 0}, api.MaxTime + 2, 0, age.Times{Sent: api.MaxTime, Received: api.MaxTime}, api.MaxTime},
		{age.Times{Sent: 4, Received: 5, Age: longest + 1}, 6, 0, age.Times{Sent: 4, Received: 5, Age: longest}, 6},
		{age.Times{Sent: 4, Received: 5, Age: math.MaxInt}, 6, 0, age.Times{Sent: 4, Received: 5, Age: longest}, 6},
	} {
		lo, hi, err := age.At(c.x, c.now, c.ppm)
		wantLo, wantHi, wantErr := age.At(c.same, c.at, c.ppm)
		if lo != wantLo || hi != wantHi || err != nil || wantErr != nil {
			t.Errorf("At(%+v, %d, %d) = %d, %d, %v, but of %+v, %d it is %d, %d, %v", c.x, c.now, c.ppm, lo, hi, err, c.same, c.at, wantLo, wantHi, wantErr)
		}
		for _, lifetime := range []int{hi, hi + 1, hi + 9, math.MaxInt} {
			left, want := age.Left(c.x, c.now, c.ppm, lifetime), age.Left(c.same, c.at, c.ppm, lifetime)
			if left != want {
				t.Errorf("Left(%+v, %d, %d, %d) = %d, but of %+v, %d it is %d", c.x, c.now, c.ppm, lifetime, left, c.same, c.at, want)
			}
		}
		compare(t, c.x, c.now, c.ppm)
	}
	x := age.Times{Sent: 100, Received: 200, Age: 3}
	for _, c := range []struct{ ppm, same int }{{-1, 0}, {math.MinInt, 0}, {100001, 100000}, {1000000, 100000}, {math.MaxInt, 100000}} {
		lo, hi, err := age.At(x, 99999, c.ppm)
		wantLo, wantHi, wantErr := age.At(x, 99999, c.same)
		if lo != wantLo || hi != wantHi || err != nil || wantErr != nil {
			t.Errorf("At with ppm %d = %d, %d, %v; with %d it is %d, %d, %v", c.ppm, lo, hi, err, c.same, wantLo, wantHi, wantErr)
		}
		compare(t, x, 99999, c.ppm)
	}
}

func TestFreshAndStale(t *testing.T) { // P13.1
	none, seven := age.Times{Sent: 1000, Received: 1500, Age: -1}, age.Times{Sent: 1000, Received: 1500, Age: 7}
	for _, c := range []struct {
		x                  age.Times
		now, ppm, lifetime int
		fresh, stale       bool
	}{
		{none, 3000, 0, 2001, true, false},
		{none, 3000, 0, 2000, false, false},
		{none, 3000, 0, 1501, false, false},
		{none, 3000, 0, 1500, false, true},
		{none, 3000, 0, 0, false, true},
		{none, 3000, 0, -1, false, true},
		{none, 3000, 0, math.MinInt, false, true},
		{none, 3000, 0, math.MaxInt, true, false},
		{seven, 3000, 0, 10001, true, false},
		{seven, 3000, 0, 10000, false, false},
		{seven, 3000, 0, 1501, false, false},
		{seven, 3000, 0, 1500, false, true},
		{none, 3000, 100000, 2224, true, false},
		{none, 3000, 100000, 2223, false, false},
		{none, 3000, 100000, 1364, false, false},
		{none, 3000, 100000, 1363, false, true},
		{age.Times{Age: -1}, 0, 0, 1, true, false},
		{age.Times{Age: -1}, 0, 0, 0, false, true},
		{age.Times{Age: -1}, 0, 1, 1, false, false},
		{age.Times{Age: -1}, 9999, 0, 10000, true, false},
		{age.Times{Age: -1}, 10000, 0, 10000, false, true},
	} {
		fresh, stale := age.Fresh(c.x, c.now, c.ppm, c.lifetime), age.Stale(c.x, c.now, c.ppm, c.lifetime)
		if fresh != c.fresh || stale != c.stale {
			t.Errorf("Fresh and Stale(%+v, %d, %d, %d) = %t, %t", c.x, c.now, c.ppm, c.lifetime, fresh, stale)
		}
		compareLifetime(t, c.x, c.now, c.ppm, c.lifetime)
	}
}

func TestLeft(t *testing.T) { // P13.1
	none, seven := age.Times{Sent: 1000, Received: 1500, Age: -1}, age.Times{Sent: 1000, Received: 1500, Age: 7}
	start, late := age.Times{Age: -1}, age.Times{Sent: api.MaxTime, Received: api.MaxTime, Age: -1}
	for _, c := range []struct {
		x                        age.Times
		now, ppm, lifetime, want int
	}{
		{none, 3000, 0, 2500, 500},
		{none, 3000, 0, 2001, 1},
		{none, 3000, 0, 2000, 0},
		{none, 1500, 0, 2500, 2000},
		{none, 1499, 0, 2500, 0}, // an error now, though not at the next reading
		{none, 0, 0, math.MaxInt, 0},
		{seven, 3000, 0, 10500, 500},
		{seven, 3000, 0, 10000, 0},
		{none, 3000, 100000, 2223, 0},
		{none, 3000, 100000, 2224, 1},
		{none, 3000, 100000, 2225, 2},
		{none, 3000, 100000, 2226, 3},
		{none, 3000, 100000, 2227, 4},
		{none, 3000, 100000, 2228, 5},
		{none, 3000, 100000, 2229, 6},
		{none, 3000, 100000, 2230, 7},
		{none, 3000, 100000, 2231, 7},
		{start, 0, 0, 10, 10},
		{start, 9, 0, 10, 1},
		{start, -5, 0, 10, 10}, // all readings below 0 are the one that is 0
		{start, math.MinInt, 0, 10, 10},
		{start, 0, 0, 0, 0},
		{start, 0, 0, -1, 0},
		{start, 0, 0, math.MinInt, 0},
		// up to the last reading
		{none, 3000, 0, 1 << 41, 1099511624777},
		{start, 0, 0, api.MaxTime, 1099511627776},
		{start, 0, 0, api.MaxTime + 1, 1099511627777},
		{start, 0, 0, math.MaxInt, 1099511627777},
		{start, 1, 0, api.MaxTime + 1, 1099511627776},
		{start, 0, 100000, api.MaxTime, 989560464998},
		{start, 0, 100000, 1221679586418, 1099511627776},
		{start, 0, 100000, 1221679586419, 1099511627777},
		{start, api.MaxTime, 0, api.MaxTime + 1, 1},
		{start, api.MaxTime, 0, api.MaxTime, 0},
		{start, math.MaxInt, 0, math.MaxInt, 1},
		{late, api.MaxTime, 0, 1, 1},
		{late, api.MaxTime + 1, 0, 100, 1},
		{late, math.MaxInt, 0, 0, 0},
		{late, api.MaxTime - 1, 0, 100, 0},
		{age.Times{Age: math.MaxInt}, 0, 0, 2147483648000, 0},
		{age.Times{Age: math.MaxInt}, 0, 0, 2147483648001, 1},
		{age.Times{Age: math.MaxInt}, 0, 0, 2147483648000 + api.MaxTime, 1099511627776},
	} {
		if got := age.Left(c.x, c.now, c.ppm, c.lifetime); got != c.want {
			t.Errorf("Left(%+v, %d, %d, %d) = %d; want %d", c.x, c.now, c.ppm, c.lifetime, got, c.want)
		}
		compareLifetime(t, c.x, c.now, c.ppm, c.lifetime)
	}
}

// freshReadings counts the readings from now on, one by one.
func freshReadings(x age.Times, now, ppm, lifetime int) int {
	n := 0
	for now+n <= api.MaxTime && age.Fresh(x, now+n, ppm, lifetime) {
		n++
	}
	return n
}

func TestLeftCountsFreshReadings(t *testing.T) { // P13.1
	for _, ppm := range drifts {
		for _, begin := range []int{0, 1, 12345, api.MaxTime - 60, api.MaxTime - 1} {
			for _, seconds := range []int{-1, 0, 3} {
				x := age.Times{Sent: begin, Received: begin + 1, Age: seconds}
				for now := begin; now < min(begin+8, api.MaxTime+1); now++ {
					for lifetime := -2; lifetime < 60; lifetime++ {
						ticks := lifetime + upstream(seconds)
						if got, want := age.Left(x, now, ppm, ticks), freshReadings(x, now, ppm, ticks); got != want {
							t.Errorf("Left(%+v, %d, %d, %d) = %d, but %d readings are Fresh", x, now, ppm, ticks, got, want)
						}
					}
				}
			}
		}
	}
}

func TestSmallTimes(t *testing.T) { // P13.1, P13.3
	for _, ppm := range []int{0, 1, 50000, 100000} {
		for sent := -1; sent < 6; sent++ {
			for received := -1; received < 6; received++ {
				for now := -1; now < 24; now++ {
					for _, seconds := range []int{-2, -1, 0, 1} {
						compare(t, age.Times{Sent: sent, Received: received, Age: seconds}, now, ppm)
					}
				}
			}
		}
	}
}

func TestTimesAtTheLimits(t *testing.T) { // P13.1, P13.3
	edges := []int{math.MinInt, -1, 0, 1, 1000, maxTime / 2, maxTime - 1, maxTime, maxTime + 1, math.MaxInt}
	for _, sent := range edges {
		for _, received := range edges {
			for _, now := range edges {
				for _, seconds := range []int{-1, 0, longest} {
					x := age.Times{Sent: sent, Received: received, Age: seconds}
					compare(t, x, now, 0)
					compare(t, x, now, maxPpm)
				}
			}
		}
	}
	for _, seconds := range samples.Around(-1000, 0, 7, 1<<30, longest, 1<<32, maxTime) {
		for _, ppm := range samples.Around(0, 1000, maxPpm, parts) {
			compare(t, age.Times{Sent: 5, Received: 6, Age: seconds}, 7, ppm)
			compare(t, age.Times{Age: seconds}, maxTime, ppm)
		}
	}
}

func TestManyTimes(t *testing.T) { // P13.1, P13.3
	for _, ppm := range drifts {
		for now := 1500; now < 4200; now++ {
			compareBounds(t, age.Times{Sent: 1000, Received: 1500, Age: -1}, now, ppm)
			compareBounds(t, age.Times{Sent: 0, Received: 10, Age: 2}, maxTime-now, ppm)
		}
	}
}

// randomNumber returns a number of any size and sign.
func randomNumber(random *rand.Rand) int {
	return int(random.Uint64()) >> random.Intn(64)
}

// randomTimes returns times, and a reading, that are in order and not clipped
// more often than not.
func randomTimes(random *rand.Rand) (age.Times, int) {
	if random.Intn(8) == 0 {
		return age.Times{Sent: randomNumber(random), Received: randomNumber(random), Age: randomNumber(random)}, randomNumber(random)
	}
	step := func() int { return random.Intn(1 << random.Intn(39)) }
	x := age.Times{Sent: step(), Age: max(-1, randomNumber(random)>>32)}
	x.Received = x.Sent + step()
	return x, x.Received + step()
}

func TestRandom(t *testing.T) { // P13.1, P13.3
	random := rand.New(rand.NewSource(1))
	for range 10000 {
		x, now := randomTimes(random)
		compare(t, x, now, random.Intn(maxPpm+1))
		compareBounds(t, x, now, randomNumber(random))
		compareLifetime(t, x, now, random.Intn(maxPpm+1), randomNumber(random))
	}
}

func FuzzAges(f *testing.F) { // P13.1, P13.3
	f.Add(1000, 1500, -1, 3000, 0, 2500)
	f.Add(1000, 1500, 7, 3000, 100000, 12500)
	f.Add(0, 0, 1<<31-1, 1<<40, 50000, 1<<42)
	f.Add(2, 1, 0, -1, -1, 0)
	f.Fuzz(func(t *testing.T, sent, received, seconds, now, ppm, lifetime int) {
		x := age.Times{Sent: sent, Received: received, Age: seconds}
		compare(t, x, now, ppm)
		compareLifetime(t, x, now, ppm, lifetime)
	})
}
