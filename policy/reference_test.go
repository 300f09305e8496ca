package policy_test

import (
	"strconv"
	"strings"

	"quayside/age"
	"quayside/directive"
	"quayside/lifetime"
	"quayside/policy"
)

// The functions of this file say the same as chapter 17 in another way: by the
// canonical text of the directives, and by deadlines, ages from which on a
// verdict no longer applies, so that the tests can compare the package with
// them. They need not be fast.

// most are the ticks of the longest time of a directive.
const most = 2147483647000

// referenceItems returns the directives by their names, with their times in
// ticks.
func referenceItems(d directive.Directives) map[string]int {
	items := map[string]int{}
	for _, text := range strings.Split(directive.Format(d), ", ") {
		name, seconds, timed := strings.Cut(text, "=")
		items[name] = most
		if timed {
			n, err := strconv.Atoi(seconds + "000")
			if err != nil {
				panic(err)
			}
			items[name] = n
		}
	}
	return items
}

// hasAny reports whether there is one of the directives.
func hasAny(items map[string]int, names ...string) bool {
	for _, name := range names {
		if _, found := items[name]; found {
			return true
		}
	}
	return false
}

// referenceDeadlines returns the deadlines of Serve, Refresh and Stale for a
// request. One that is not above 0 is that of a verdict that never applies.
func referenceDeadlines(s policy.Stored, request directive.Directives) []int {
	said, asked := referenceItems(directive.Parse(s.Fields)), referenceItems(request)
	if hasAny(said, "no-cache") || hasAny(asked, "no-cache") {
		return []int{0, 0, 0}
	}
	serve, _ := lifetime.Of(s.Status, s.Fields)
	while, _ := lifetime.Allowance(s.Fields)
	refresh, stale := serve+while, 0
	if more, found := asked["max-stale"]; found && !hasAny(said, "must-revalidate", "s-maxage") {
		stale = serve + more
		if limit, found := asked["max-age"]; found {
			stale = min(stale, limit+more)
		}
	}
	if fresh, found := asked["min-fresh"]; found {
		serve, refresh, stale = serve-fresh, 0, 0
	}
	if limit, found := asked["max-age"]; found {
		serve, refresh = min(serve, limit), 0
	}
	return []int{serve, refresh, stale}
}

func referenceJudge(s policy.Stored, request directive.Directives, now, ppm int) int {
	for i, deadline := range referenceDeadlines(s, request) {
		if age.Fresh(s.Times, now, ppm, deadline) {
			return i + 1
		}
	}
	if s.HasValidator {
		return 4
	}
	return 5
}

// referenceAllowed returns the deadlines of a response after the allowances: of
// the greater one of both, and of the one for errors.
func referenceAllowed(s policy.Stored) (limit, onError int) {
	if hasAny(referenceItems(directive.Parse(s.Fields)), "no-cache") {
		return 0, 0
	}
	ticks, _ := lifetime.Of(s.Status, s.Fields)
	while, onError := lifetime.Allowance(s.Fields)
	if while > onError {
		return ticks + while, ticks + onError
	}
	return ticks + onError, ticks + onError
}

func referenceOnError(s policy.Stored, now, ppm int) bool {
	_, deadline := referenceAllowed(s)
	return age.Fresh(s.Times, now, ppm, deadline)
}

func referenceLimit(s policy.Stored) int {
	limit, _ := referenceAllowed(s)
	return limit
}
