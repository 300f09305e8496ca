package age_test

import (
	"math/big"

	"quayside/age"
	"quayside/api"
)

// The functions of this file say the same as chapter 13, and as chapter 12 says
// of elapsed time, in another way: by fractions of any size, and for Left by the
// first reading of the clock at which the response is not fresh, so that the
// tests can compare the package with them. They need not be fast.

const (
	parts   = 1000000
	maxPpm  = 100000
	maxTime = 1099511627776
	longest = 2147483647
)

func clipped(n, most int) int {
	return max(min(n, most), 0)
}

// rate returns the rate of a clock that goes so many parts per million too fast.
func rate(ppm int) *big.Rat {
	return big.NewRat(int64(parts+ppm), parts)
}

func whole(n int) *big.Rat {
	return new(big.Rat).SetInt64(int64(n))
}

// floor returns the greatest integer that is at most q.
func floor(q *big.Rat) int {
	// Div rounds down, as no denominator is negative.
	return int(new(big.Int).Div(q.Num(), q.Denom()).Int64())
}

// leastTicks returns the least number of ticks in which the fastest clock goes on
// by more than d - 1.
func leastTicks(d, ppm int) int {
	if d == 0 {
		return 0
	}
	return floor(new(big.Rat).Quo(whole(d-1), rate(ppm))) + 1
}

// mostTicks returns the greatest number of ticks in which the slowest clock goes
// on by less than d + 1.
func mostTicks(d, ppm int) int {
	end := new(big.Rat).Quo(whole(d+1), rate(-ppm))
	if end.IsInt() {
		return floor(end) - 1
	}
	return floor(end)
}

// upstream returns the ticks that the Age of a response adds to its age.
func upstream(seconds int) int {
	if seconds < 0 {
		return 0
	}
	return 1000*clipped(seconds, longest) + 1000
}

func referenceAt(x age.Times, now, ppm int) (lo, hi int, err error) {
	sent, received, at := clipped(x.Sent, maxTime), clipped(x.Received, maxTime), clipped(now, maxTime)
	if !(sent <= received && received <= at) {
		return 0, 0, api.ErrOrder
	}
	drift := clipped(ppm, maxPpm)
	return leastTicks(at-received, drift), mostTicks(at-sent, drift) + upstream(x.Age), nil
}

func referenceField(x age.Times, now, ppm int) (int, error) {
	_, hi, err := referenceAt(x, now, ppm)
	return floor(big.NewRat(int64(hi), 1000)), err
}

func referenceFresh(x age.Times, now, ppm, lifetime int) bool {
	_, hi, err := referenceAt(x, now, ppm)
	return err == nil && hi < lifetime
}

func referenceStale(x age.Times, now, ppm, lifetime int) bool {
	lo, _, err := referenceAt(x, now, ppm)
	return err == nil && lo >= lifetime
}

// referenceLeft finds the first reading that is not fresh: mostTicks(d, ppm) is
// below a number of ticks exactly while d + 1 is at most what the slowest clock
// goes on by in so many ticks.
func referenceLeft(x age.Times, now, ppm, lifetime int) int {
	at := clipped(now, maxTime)
	if !referenceFresh(x, at, ppm, lifetime) {
		return 0
	}
	ticks := new(big.Rat).Sub(whole(lifetime), whole(upstream(x.Age)))
	differences := floor(ticks.Mul(ticks, rate(-clipped(ppm, maxPpm))))
	end := min(differences, 2*maxTime) + clipped(x.Sent, maxTime)
	return min(end, maxTime+1) - at
}
