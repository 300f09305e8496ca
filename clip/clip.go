// Package clip moves numbers into their ranges, where a chapter says that they
// are clipped, for the layers that need the same.
package clip

import "quayside/api"

// Time returns n, a true time, a reading or a number of ticks, moved into 0 to
// MaxTime.
func Time(n int) int {
	return min(max(n, 0), api.MaxTime)
}
