package clock_test

import (
	"math/big"
	"math/bits"
	"sort"

	"quayside/api"
	"quayside/clock"
)

// The functions of this file say the same as chapter 12 in another way: by
// fractions of any size, and by looking for the ticks after which a difference
// is possible, and for the differences that leases need, instead of the
// formulas, so that the tests can compare the package with them. They need not
// be fast.

const (
	parts     = 1000000
	maxPpm    = 100000
	maxTime   = 1099511627776
	maxTerm   = 1048576
	searchEnd = 1 << 42 // above all ticks and differences that are looked for
)

func clip(n, most int) int {
	switch {
	case n < 0:
		return 0
	case n > most:
		return most
	}
	return n
}

func outside(n, least, most int) bool {
	return n < least || n > most
}

func referenceRead(c clock.Clock, t int) (int, error) {
	if outside(c.Offset, 0, maxTime) || outside(c.Num, 1, maxTerm) || outside(c.Den, 1, maxTerm) || outside(t, 0, maxTime) {
		return 0, api.ErrRange
	}
	n := new(big.Int).Mul(big.NewInt(int64(t)), big.NewInt(int64(c.Num)))
	n.Div(n, big.NewInt(int64(c.Den)))
	return int(n.Add(n, big.NewInt(int64(c.Offset))).Int64()), nil
}

func referenceWithin(c clock.Clock, ppm int) bool {
	if outside(c.Num, 1, maxTerm) || outside(c.Den, 1, maxTerm) {
		return false
	}
	drift := new(big.Rat).Sub(big.NewRat(int64(c.Num), int64(c.Den)), big.NewRat(1, 1))
	return drift.Abs(drift).Cmp(big.NewRat(int64(clip(ppm, maxPpm)), parts)) <= 0
}

// less reports whether a b < c d. None of them is negative.
func less(a, b, c, d int) bool {
	high, low := bits.Mul64(uint64(a), uint64(b))
	otherHigh, otherLow := bits.Mul64(uint64(c), uint64(d))
	return high < otherHigh || high == otherHigh && low < otherLow
}

// fastEnough reports whether the fastest clock goes on by more than d - 1 in so
// many ticks.
func fastEnough(ticks, d, ppm int) bool {
	return d == 0 || less(d-1, parts, ticks, parts+ppm)
}

// slowEnough reports whether the slowest clock goes on by less than d + 1 in so
// many ticks.
func slowEnough(ticks, d, ppm int) bool {
	return less(ticks, parts-ppm, d+1, parts)
}

// possible reports whether the difference d is possible after so many ticks:
// whether one of the clocks between the slowest and the fastest one goes on by
// more than d - 1 and less than d + 1.
func possible(ticks, d, ppm int) bool {
	return fastEnough(ticks, d, ppm) && slowEnough(ticks, d, ppm)
}

// bounds returns the least and the greatest number of ticks after which the
// difference d is possible, for a d that may be above MaxTime.
func bounds(d, ppm int) (lo, hi int) {
	lo = sort.Search(searchEnd, func(ticks int) bool { return fastEnough(ticks, d, ppm) })
	hi = sort.Search(searchEnd, func(ticks int) bool { return !slowEnough(ticks, d, ppm) }) - 1
	return lo, hi
}

func referenceElapsed(d, ppm int) (lo, hi int) {
	return bounds(clip(d, maxTime), clip(ppm, maxPpm))
}

func referenceHold(l, ppm int) int {
	return sort.Search(searchEnd, func(d int) bool {
		_, hi := bounds(d, clip(ppm, maxPpm))
		return hi >= clip(l, maxTime)
	})
}

func referenceWait(l, ppm int) int {
	return sort.Search(searchEnd, func(d int) bool {
		lo, _ := bounds(d, clip(ppm, maxPpm))
		return lo >= clip(l, maxTime)
	})
}

// referenceBefore compares every moment of a with every moment of b. There has
// to be one of each.
func referenceBefore(a, b [2]int) bool {
	if a[0] > a[1] || b[0] > b[1] {
		return false
	}
	for x := a[0]; x <= a[1]; x++ {
		for y := b[0]; y <= b[1]; y++ {
			if x >= y {
				return false
			}
		}
	}
	return true
}
