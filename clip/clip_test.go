package clip_test

import (
	"math"
	"testing"

	"quayside/clip"
)

func TestTime(t *testing.T) { // P12.1, P13.1
	for _, c := range []struct{ n, want int }{
		{math.MinInt, 0}, {-1099511627776, 0}, {-1, 0}, {0, 0}, {1, 1}, {1000, 1000}, {1 << 32, 1 << 32},
		{1099511627775, 1099511627775}, {1099511627776, 1099511627776}, {1099511627777, 1099511627776}, {math.MaxInt, 1099511627776},
	} {
		if got := clip.Time(c.n); got != c.want {
			t.Errorf("Time(%d) = %d; want %d", c.n, got, c.want)
		}
	}
}
