package policy_test

import (
	"fmt"
	"math"
	"math/rand"
	"slices"
	"strconv"
	"strings"
	"testing"

	"quayside/age"
	"quayside/api"
	"quayside/directive"
	"quayside/field"
	"quayside/policy"
	"quayside/samples"
)

const (
	date, later, sooner = samples.Date, samples.Later, samples.Sooner
	first, last         = samples.FirstDate, samples.LastDate
)

// of returns the fields with the names and values given in turn.
var of = samples.Fields

// control returns a cache-control field with the value.
func control(value string) field.Fields {
	return of("cache-control", value)
}

// atOnce returns a response with the status 200 and a validator that was
// requested, made and received at the reading 0.
func atOnce(f field.Fields) policy.Stored {
	return policy.Stored{Status: 200, Fields: f, Times: age.Times{Age: -1}, HasValidator: true}
}

// asking returns the directives of a request with the Cache-Control value.
func asking(value string) directive.Directives {
	return directive.Parse(control(value))
}

// show returns the text of a response, of which the fields may be long.
func show(s policy.Stored) string {
	return fmt.Sprintf("{%d %.300q %+v %t}", s.Status, s.Fields, s.Times, s.HasValidator)
}

// compare checks all functions against reference_test.go.
func compare(t *testing.T, s policy.Stored, request directive.Directives, now, ppm int) {
	t.Helper()
	kept := slices.Clone(s.Fields)
	if got, want := policy.Judge(s, request, now, ppm), referenceJudge(s, request, now, ppm); got != want {
		t.Errorf("Judge(%s, %+v, %d, %d) = %d; want %d", show(s), request, now, ppm, got, want)
	}
	if got, want := policy.OnError(s, now, ppm), referenceOnError(s, now, ppm); got != want {
		t.Errorf("OnError(%s, %d, %d) = %t", show(s), now, ppm, got)
	}
	if got, want := policy.Limit(s), referenceLimit(s); got != want {
		t.Errorf("Limit(%s) = %d; want %d", show(s), got, want)
	}
	if !slices.Equal(s.Fields, kept) {
		t.Errorf("the fields %.300q were changed to %.300q", kept, s.Fields)
	}
}

func TestVerdicts(t *testing.T) { // P17.1
	verdicts := []int{policy.Serve, policy.Refresh, policy.Stale, policy.Validate, policy.Fetch}
	if !slices.Equal(verdicts, []int{1, 2, 3, 4, 5}) {
		t.Errorf("the verdicts are %d", verdicts)
	}
}

// ends are the first readings at which the verdicts Serve, Refresh and Stale no
// longer apply.
type ends struct{ serve, refresh, stale int }

// at returns the verdict at a reading, for a response with a validator.
func (e ends) at(now int) int {
	switch {
	case now < e.serve:
		return policy.Serve
	case now < e.refresh:
		return policy.Refresh
	case now < e.stale:
		return policy.Stale
	}
	return policy.Validate
}

// checkEnds expects the verdicts on the response at the readings of an exact
// clock, with a validator and without one.
func checkEnds(t *testing.T, s policy.Stored, request directive.Directives, e ends) {
	t.Helper()
	for _, n := range []int{0, e.serve, e.refresh, e.stale, api.MaxTime} {
		for now := max(n-1, 0); now <= min(n+1, api.MaxTime); now++ {
			want := e.at(now)
			s.HasValidator = true
			if got := policy.Judge(s, request, now, 0); got != want {
				t.Errorf("Judge(%s, %+v, %d) = %d; want %d", show(s), request, now, got, want)
			}
			compare(t, s, request, now, 0)
			if want == policy.Validate {
				want = policy.Fetch
			}
			s.HasValidator = false
			if got := policy.Judge(s, request, now, 0); got != want {
				t.Errorf("Judge(%s, %+v, %d) = %d; want %d", show(s), request, now, got, want)
			}
			compare(t, s, request, now, 0)
		}
	}
}

// always is above all readings.
const always = math.MaxInt / 2

func TestExamples(t *testing.T) { // P17.1
	s := atOnce(control("max-age=10, stale-while-revalidate=5"))
	for _, c := range []struct {
		request   string
		now, want int
	}{
		{"", 9999, policy.Serve},
		{"", 10000, policy.Refresh},
		{"", 14999, policy.Refresh},
		{"", 15000, policy.Validate},
		{"max-age=5", 4999, policy.Serve},
		{"max-age=5", 5000, policy.Validate},
		{"max-stale=100", 15000, policy.Stale},
	} {
		if got := policy.Judge(s, asking(c.request), c.now, 0); got != c.want {
			t.Errorf("Judge of %q at %d = %d; want %d", c.request, c.now, got, c.want)
		}
	}
	if policy.OnError(s, 10000, 0) {
		t.Error("OnError at 10000")
	}
	if limit := policy.Limit(s); limit != 15000 {
		t.Errorf("Limit = %d", limit)
	}
}

func TestRequests(t *testing.T) { // P17.1
	s := atOnce(control("max-age=10, stale-while-revalidate=5, stale-if-error=70"))
	for _, c := range []struct {
		request string
		e       ends
	}{
		{"", ends{10000, 15000, 0}},
		{"max-age=0", ends{0, 0, 0}},
		{"max-age=1", ends{1000, 0, 0}},
		{"max-age=5", ends{5000, 0, 0}},
		{"max-age=10", ends{10000, 0, 0}},
		{"max-age=11", ends{10000, 0, 0}},
		{"max-age=2147483647", ends{10000, 0, 0}},
		{"max-age=x", ends{0, 0, 0}},
		{"min-fresh=0", ends{10000, 0, 0}},
		{"min-fresh=1", ends{9000, 0, 0}},
		{"min-fresh=4", ends{6000, 0, 0}},
		{"min-fresh=9", ends{1000, 0, 0}},
		{"min-fresh=10", ends{0, 0, 0}},
		{"min-fresh=11", ends{0, 0, 0}},
		{"min-fresh", ends{0, 0, 0}},
		{"max-age=5, min-fresh=4", ends{5000, 0, 0}},
		{"max-age=6, min-fresh=4", ends{6000, 0, 0}},
		{"max-age=7, min-fresh=4", ends{6000, 0, 0}},
		{"max-stale=0", ends{10000, 15000, 0}},
		{"max-stale=5", ends{10000, 15000, 0}},
		{"max-stale=6", ends{10000, 15000, 16000}},
		{"max-stale=100", ends{10000, 15000, 110000}},
		{"max-stale", ends{10000, 15000, always}},
		{"max-age=0, max-stale=3", ends{0, 0, 3000}},
		{"max-age=5, max-stale=0", ends{5000, 0, 0}},
		{"max-age=5, max-stale=3", ends{5000, 0, 8000}},
		{"max-age=5, max-stale=5", ends{5000, 0, 10000}},
		{"max-age=5, max-stale=8", ends{5000, 0, 13000}},
		{"max-age=5, max-stale", ends{5000, 0, always}},
		{"max-age=9, max-stale=3", ends{9000, 0, 12000}},
		{"max-age=10, max-stale=3", ends{10000, 0, 13000}},
		{"max-age=12, max-stale=3", ends{10000, 0, 13000}},
		{"max-age=14, max-stale=3", ends{10000, 0, 13000}},
		{"max-stale=100, min-fresh=0", ends{10000, 0, 0}},
		{"max-stale=100, min-fresh=4", ends{6000, 0, 0}},
		{"max-stale, min-fresh=4, max-age=5", ends{5000, 0, 0}},
		{"no-cache", ends{0, 0, 0}},
		{"no-cache, max-age=5, max-stale=100", ends{0, 0, 0}},
		{`no-cache="x", max-stale`, ends{0, 0, 0}},
		{"no-store, private, public, must-revalidate, only-if-cached", ends{10000, 15000, 0}},
		{"proxy-revalidate, s-maxage=1, stale-while-revalidate=20, stale-if-error=30, max-stale=7", ends{10000, 15000, 17000}},
		{"x=1, max-stal=3, min-fres", ends{10000, 15000, 0}},
		{`max-age=5, x="`, ends{10000, 15000, 0}},
	} {
		checkEnds(t, s, asking(c.request), c.e)
	}
}

func TestResponses(t *testing.T) { // P17.1
	for _, c := range []struct {
		response, request string
		e                 ends
	}{
		{"", "", ends{0, 0, 0}},
		{"", "max-stale=3", ends{0, 0, 3000}},
		{"", "max-age=9, max-stale=3", ends{0, 0, 3000}},
		{"max-age=0", "", ends{0, 0, 0}},
		{"max-age=1", "", ends{1000, 0, 0}},
		{"max-age=10", "", ends{10000, 0, 0}},
		{"max-age=10", "max-stale=0", ends{10000, 0, 0}},
		{"max-age=10", "max-stale=1", ends{10000, 0, 11000}},
		{"max-age=10, stale-while-revalidate=0", "max-stale=1", ends{10000, 0, 11000}},
		{"max-age=10, stale-while-revalidate=1", "max-stale=1", ends{10000, 11000, 0}},
		{"max-age=10, stale-if-error=5", "", ends{10000, 0, 0}},
		{"max-age=10, stale-if-error=5", "max-stale=1", ends{10000, 0, 11000}},
		{"stale-while-revalidate=5", "", ends{0, 5000, 0}},
		{"stale-while-revalidate=5", "max-age=9", ends{0, 0, 0}},
		{"stale-while-revalidate=5", "min-fresh=0", ends{0, 0, 0}},
		{"max-age=10, stale-while-revalidate=5, must-revalidate", "", ends{10000, 0, 0}},
		{"max-age=10, stale-while-revalidate=5, must-revalidate", "max-stale", ends{10000, 0, 0}},
		{"max-age=10, stale-while-revalidate=5, must-revalidate", "max-age=5, max-stale=3", ends{5000, 0, 0}},
		{"max-age=10, stale-while-revalidate=5, proxy-revalidate", "max-stale", ends{10000, 0, 0}},
		{"s-maxage=10, stale-while-revalidate=5", "", ends{10000, 0, 0}},
		{"s-maxage=10, max-age=20", "max-stale", ends{10000, 0, 0}},
		{"s-maxage=10", "max-age=5, max-stale=3", ends{5000, 0, 0}},
		{"s-maxage=0", "max-stale", ends{0, 0, 0}},
		{"s-maxage=10", "max-age=5", ends{5000, 0, 0}},
		{"s-maxage=10, must-revalidate", "min-fresh=4", ends{6000, 0, 0}},
		{"max-age=10, no-cache", "", ends{0, 0, 0}},
		{"max-age=10, no-cache", "max-stale", ends{0, 0, 0}},
		{`max-age=10, stale-while-revalidate=5, no-cache="x"`, "max-stale", ends{0, 0, 0}},
		{"max-age=10, no-store, private, public, only-if-cached, max-stale=1, min-fresh=4", "", ends{10000, 0, 0}},
		{"max-age=10, no-store, private, public, only-if-cached, min-fresh=4", "max-stale=2", ends{10000, 0, 12000}},
		{"max-age=10, max-stale=1", "max-age=20", ends{10000, 0, 0}},
		{`max-age=10, x="`, "", ends{0, 0, 0}},
		{`max-age=10, x="`, "max-stale=2", ends{0, 0, 2000}},
		{"max-age=2147483647, stale-while-revalidate=2147483647", "", ends{always, 0, 0}},
		{"stale-while-revalidate=2147483647", "", ends{0, always, 0}},
		{"max-age=2147483647", "min-fresh=2147483646", ends{1000, 0, 0}},
		{"max-age=2147483647", "min-fresh", ends{0, 0, 0}},
	} {
		checkEnds(t, atOnce(control(c.response)), asking(c.request), c.e)
	}
}

func TestLifetimes(t *testing.T) { // P17.1
	unchanged := of("date", date, "last-modified", sooner)
	allowed := of("date", date, "expires", later, "Cache-Control", "stale-while-revalidate=5", "CACHE-CONTROL", "stale-if-error=9")
	for _, c := range []struct {
		status  int
		f       field.Fields
		request string
		e       ends
	}{
		{200, unchanged, "", ends{100000, 0, 0}},
		{200, unchanged, "min-fresh=1, max-age=98", ends{98000, 0, 0}},
		{200, unchanged, "max-age=99, max-stale=1", ends{99000, 0, 100000}},
		{404, unchanged, "", ends{10000, 0, 0}},
		{404, unchanged, "max-stale=1", ends{10000, 0, 11000}},
		{302, unchanged, "", ends{0, 0, 0}},
		{302, unchanged, "max-stale=1", ends{0, 0, 1000}},
		{200, allowed, "", ends{60000, 65000, 0}},
		{302, allowed, "", ends{60000, 65000, 0}},
		{302, allowed, "max-stale=6", ends{60000, 65000, 66000}},
		{200, of("date", date, "expires", "0", "last-modified", sooner), "", ends{0, 0, 0}},
		{200, of("date", first, "expires", last), "", ends{always, 0, 0}},
		{200, of("date", first, "expires", last), "min-fresh", ends{always, 0, 0}},
		{200, of("date", first, "expires", last), "max-age=5, max-stale=4", ends{5000, 0, 9000}},
		{200, nil, "", ends{0, 0, 0}},
		{-1, nil, "max-stale=7", ends{0, 0, 7000}},
	} {
		s := atOnce(c.f)
		s.Status = c.status
		checkEnds(t, s, asking(c.request), c.e)
	}
}

func TestRequestsAreNormalized(t *testing.T) { // P17.1
	s := atOnce(control("max-age=10, stale-while-revalidate=5"))
	none := directive.None()
	for _, low := range []int{-1, -2, -10, -1 << 31, -1 << 40, math.MinInt + 1, math.MinInt} {
		request := directive.Directives{MaxAge: low, SharedAge: low, WhileStale: low, OnError: low, MaxStale: low, MinFresh: low}
		checkEnds(t, s, request, ends{10000, 15000, 0})
		request.MaxStale = 6
		checkEnds(t, s, request, ends{10000, 15000, 16000})
		request.MaxAge = 7
		checkEnds(t, s, request, ends{7000, 0, 13000})
		request.MinFresh = 5
		checkEnds(t, s, request, ends{5000, 0, 0})
		request = directive.Directives{MaxAge: 7, MaxStale: low, MinFresh: low}
		checkEnds(t, s, request, ends{7000, 0, 0})
	}
	for _, high := range []int{1<<31 - 1, 1 << 31, 1 << 40, 1 << 54, math.MaxInt/1000 - 1, math.MaxInt/1000 + 1, math.MaxInt - 1, math.MaxInt} {
		request := none
		request.MaxAge = high
		checkEnds(t, s, request, ends{10000, 0, 0})
		request.MaxStale = high
		checkEnds(t, s, request, ends{10000, 0, always})
		request.MaxAge = -1
		checkEnds(t, s, request, ends{10000, 15000, always})
		request.MinFresh = high
		checkEnds(t, s, request, ends{0, 0, 0})
	}
	checkEnds(t, s, directive.Directives{}, ends{0, 0, 0})
}

func TestGreatestTimes(t *testing.T) { // P17.1
	// The age may be almost a second more than the Age field says, and the longest
	// time of a directive is 2147483647 seconds.
	for _, c := range []struct {
		response, request string
		seconds           int
		e                 ends
	}{
		{"max-age=2147483647", "", 2147483645, ends{1000, 0, 0}},
		{"max-age=2147483647", "", 2147483646, ends{0, 0, 0}},
		{"max-age=2147483647, stale-while-revalidate=2", "", 2147483646, ends{0, 2000, 0}},
		{"max-age=2147483647", "max-stale=2", 2147483646, ends{0, 0, 2000}},
		{"max-age=0", "max-stale", 2147483645, ends{0, 0, 1000}},
		{"max-age=0", "max-stale", 2147483646, ends{0, 0, 0}},
		{"max-age=0", "max-stale", 1 << 40, ends{0, 0, 0}},
		{"max-age=2", "max-stale", 1 << 40, ends{0, 0, 1000}},
		{"max-age=2147483647", "max-age=2, max-stale", 1 << 40, ends{0, 0, 1000}},
		{"stale-while-revalidate=2147483648", "", 2147483645, ends{0, 1000, 0}},
		{"stale-while-revalidate=2147483648", "", 2147483646, ends{0, 0, 0}},
	} {
		s := atOnce(control(c.response))
		s.Times.Age = c.seconds
		checkEnds(t, s, asking(c.request), c.e)
	}
	for _, high := range []int{1<<31 - 1, 1 << 31, 1 << 55, math.MaxInt} {
		request := directive.None()
		request.MaxStale = high
		s := atOnce(nil)
		s.Times.Age = 2147483645
		checkEnds(t, s, request, ends{0, 0, 1000})
		request = directive.None()
		request.MaxAge = high
		s = atOnce(of("date", first, "expires", last))
		s.Times.Age = 2147483645
		checkEnds(t, s, request, ends{1000, 0, 0})
		request = directive.None()
		request.MinFresh = high
		s = atOnce(of("date", first, "expires", "Tue, 19 Jan 2038 03:14:10 GMT")) // 2147483650 seconds
		checkEnds(t, s, request, ends{3000, 0, 0})
	}
}

func TestUpperBoundOfTheAge(t *testing.T) { // P17.1
	none, seven := age.Times{Sent: 1000, Received: 1500, Age: -1}, age.Times{Sent: 1000, Received: 1500, Age: 7}
	for _, c := range []struct {
		x              age.Times
		ppm            int
		value, request string
		until          int // the first reading at which the response is not served
	}{
		{none, 0, "max-age=2", "", 3000},
		{none, 0, "stale-while-revalidate=2, stale-if-error=2", "", 3000},
		{none, 0, "max-age=9", "max-age=2", 3000},
		{none, 0, "max-age=9", "min-fresh=7", 3000},
		{none, 0, "max-age=1", "max-stale=1", 3000},
		{none, 0, "max-age=9", "max-age=1, max-stale=1", 3000},
		{seven, 0, "max-age=10", "", 3000},
		{seven, 0, "max-age=3", "max-stale=7", 3000},
		{none, -1, "max-age=2", "", 3000},
		{none, math.MinInt, "max-age=2", "", 3000},
		{none, 100000, "max-age=2", "", 2800},
		{seven, 100000, "max-age=10", "", 2800},
		{none, 100001, "max-age=2", "", 2800},
		{none, math.MaxInt, "max-age=2", "", 2800},
		{none, 1000, "max-age=2", "", 2998},
		{age.Times{}, 0, "max-age=3", "", 2000},
		{age.Times{Sent: -9, Received: -7, Age: math.MinInt}, 0, "max-age=3", "", 3000},
	} {
		s := policy.Stored{Status: 200, Fields: control(c.value), Times: c.x}
		request := asking(c.request)
		if got := policy.Judge(s, request, c.until-1, c.ppm); got > policy.Stale {
			t.Errorf("Judge(%s, %q, %d, %d) = %d", show(s), c.request, c.until-1, c.ppm, got)
		}
		if got := policy.Judge(s, request, c.until, c.ppm); got != policy.Fetch {
			t.Errorf("Judge(%s, %q, %d, %d) = %d", show(s), c.request, c.until, c.ppm, got)
		}
		compare(t, s, request, c.until-1, c.ppm)
		compare(t, s, request, c.until, c.ppm)
	}
}

func TestReadingsAreClipped(t *testing.T) { // P17.1
	for _, c := range []struct {
		sent, received, now int
		served              bool
	}{
		{0, 0, -1, true},
		{-5, -7, math.MinInt, true},
		{0, 0, math.MaxInt, false},
		{api.MaxTime - 999, api.MaxTime, math.MaxInt, true},
		{api.MaxTime - 1000, api.MaxTime, math.MaxInt, false},
		{math.MaxInt, api.MaxTime + 1, api.MaxTime, true},
	} {
		s := policy.Stored{Status: 200, Fields: control("max-age=1"), Times: age.Times{Sent: c.sent, Received: c.received, Age: -1}}
		want := policy.Fetch
		if c.served {
			want = policy.Serve
		}
		if got := policy.Judge(s, directive.None(), c.now, 0); got != want {
			t.Errorf("Judge(%s, %d) = %d; want %d", show(s), c.now, got, want)
		}
		if got := policy.OnError(s, c.now, 0); got != c.served {
			t.Errorf("OnError(%s, %d) = %t", show(s), c.now, got)
		}
		compare(t, s, directive.None(), c.now, 0)
	}
}

func TestReadingsOutOfOrder(t *testing.T) { // P17.1
	for _, c := range []struct{ sent, received, now int }{
		{2, 1, 1}, {2, 1, 2}, {2, 1, 3}, {1, 3, 2}, {3, 2, 1}, {0, 1, 0}, {1, 2, math.MinInt}, {0, 1, -1}, {1, -1, 5},
		{api.MaxTime, api.MaxTime - 1, api.MaxTime}, {0, api.MaxTime, api.MaxTime - 1}, {math.MaxInt, 5, 6}, {4, math.MaxInt, 6},
	} {
		for _, request := range []string{"", "max-stale", "max-age=5", "min-fresh=0", "no-cache"} {
			s := atOnce(control("max-age=10, stale-while-revalidate=5, stale-if-error=6"))
			s.Times = age.Times{Sent: c.sent, Received: c.received, Age: -1}
			if got := policy.Judge(s, asking(request), c.now, 0); got != policy.Validate {
				t.Errorf("Judge(%s, %q, %d) = %d", show(s), request, c.now, got)
			}
			compare(t, s, asking(request), c.now, 0)
			s.HasValidator = false
			if got := policy.Judge(s, asking(request), c.now, 0); got != policy.Fetch {
				t.Errorf("Judge(%s, %q, %d) = %d", show(s), request, c.now, got)
			}
			if policy.OnError(s, c.now, 0) {
				t.Errorf("OnError(%s, %d)", show(s), c.now)
			}
			if limit := policy.Limit(s); limit != 16000 {
				t.Errorf("Limit(%s) = %d", show(s), limit)
			}
			compare(t, s, asking(request), c.now, 0)
		}
	}
}

func TestErrorsAndLimits(t *testing.T) { // P17.1
	minute := []string{"date", date, "expires", later}
	for _, c := range []struct {
		status         int
		f              field.Fields
		onError, limit int
	}{
		{200, control("max-age=10"), 10000, 10000},
		{200, control("max-age=0"), 0, 0},
		{200, control("max-age=10, stale-while-revalidate=5"), 10000, 15000},
		{200, control("max-age=10, stale-if-error=7"), 17000, 17000},
		{200, control("max-age=10, stale-while-revalidate=5, stale-if-error=7"), 17000, 17000},
		{200, control("max-age=10, stale-while-revalidate=7, stale-if-error=5"), 15000, 17000},
		{200, control("max-age=10, stale-while-revalidate=7, stale-if-error=7"), 17000, 17000},
		{200, control("max-age=10, stale-while-revalidate=7, stale-if-error=0"), 10000, 17000},
		{200, control("stale-while-revalidate=7, stale-if-error=5"), 5000, 7000},
		{200, control("max-age=10, stale-while-revalidate=5, stale-if-error=7, must-revalidate"), 10000, 10000},
		{200, control("max-age=10, stale-while-revalidate=5, stale-if-error=7, proxy-revalidate"), 10000, 10000},
		{200, control("s-maxage=10, stale-while-revalidate=5, stale-if-error=7, max-age=20"), 10000, 10000},
		{200, control("max-age=10, stale-while-revalidate=5, stale-if-error=7, no-cache"), 0, 0},
		{200, control(`max-age=10, stale-if-error=7, no-cache="x"`), 0, 0},
		{200, control("s-maxage=10, no-cache"), 0, 0},
		{200, control("max-age=10, stale-if-error=7, no-store, private, public, only-if-cached, max-stale=1, min-fresh=9"), 17000, 17000},
		{200, control(`max-age=10, x="`), 0, 0},
		{200, control("max-age=2147483647, stale-while-revalidate=2147483646, stale-if-error=2147483647"), always, 4294967294000},
		{200, control("max-age=2147483648, stale-while-revalidate=2147483648, stale-if-error=2147483647"), always, 4294967294000},
		{200, of(minute...), 60000, 60000},
		{302, of(append(minute, "cache-control", "stale-if-error=7")...), 67000, 67000},
		{302, of(append(minute, "cache-control", "no-cache")...), 0, 0},
		{200, of("date", date, "last-modified", sooner), 100000, 100000},
		{404, of("date", date, "last-modified", sooner, "Cache-Control", "stale-while-revalidate=1"), 10000, 11000},
		{302, of("date", date, "last-modified", sooner), 0, 0},
		{200, of("date", first, "expires", last), always, 253402300799000},
		{200, nil, 0, 0},
	} {
		for _, validator := range []bool{false, true} {
			s := policy.Stored{Status: c.status, Fields: c.f, Times: age.Times{Age: -1}, HasValidator: validator}
			for _, now := range []int{0, c.onError - 1, c.onError, c.onError + 1, c.limit, api.MaxTime} {
				if now < 0 || now > api.MaxTime {
					continue
				}
				if got := policy.OnError(s, now, 0); got != (now < c.onError) {
					t.Errorf("OnError(%s, %d) = %t", show(s), now, got)
				}
				compare(t, s, directive.None(), now, 0)
			}
			if got := policy.Limit(s); got != c.limit {
				t.Errorf("Limit(%s) = %d; want %d", show(s), got, c.limit)
			}
			s.Times = age.Times{Sent: math.MaxInt, Received: math.MinInt, Age: 99}
			if got := policy.Limit(s); got != c.limit {
				t.Errorf("Limit(%s) = %d; want %d", show(s), got, c.limit)
			}
		}
	}
}

// requests are those with all combinations of no-cache and some times.
func requests() []directive.Directives {
	var list []directive.Directives
	for _, maxAge := range []int{-1, 0, 1, 2, 4} {
		for _, minFresh := range []int{-1, 0, 1, 2} {
			for _, maxStale := range []int{-1, 0, 1, 3} {
				for _, noCache := range []bool{false, true} {
					request := directive.None()
					request.MaxAge, request.MinFresh, request.MaxStale, request.NoCache = maxAge, minFresh, maxStale, noCache
					list = append(list, request)
				}
			}
		}
	}
	return list
}

// greatestMaxAge returns the max-age of the request, or, where it has none, one
// that permits as much.
func greatestMaxAge(request directive.Directives) int {
	if request.MaxAge < 0 {
		return math.MaxInt
	}
	return request.MaxAge
}

// isStricter reports whether a is the same request as b, or one that P17.3 calls
// stricter.
func isStricter(a, b directive.Directives) bool {
	return a.MaxStale == b.MaxStale && (a.NoCache || !b.NoCache) && greatestMaxAge(a) <= greatestMaxAge(b) && a.MinFresh >= b.MinFresh
}

// responses calls use with responses that have all combinations of directives.
func responses(use func(s policy.Stored)) {
	list := []string{"max-age=2", "s-maxage=1", "stale-while-revalidate=1", "stale-if-error=2", "must-revalidate", "no-cache", "no-store, private"}
	samples.Subsets(list, func(list []string) {
		use(atOnce(control(strings.Join(list, ", "))))
	})
}

// readings are those at which a verdict on one of the responses may change.
func readings() []int {
	list := []int{0}
	for now := 1000; now <= 6000; now += 1000 {
		list = append(list, now-1, now)
	}
	return list
}

func TestAllCombinations(t *testing.T) { // P17.1
	requests, readings := requests(), readings()
	responses(func(s policy.Stored) {
		for _, request := range requests {
			for _, now := range readings {
				compare(t, s, request, now, 0)
			}
		}
	})
}

func TestStricterRequestsAndLaterReadings(t *testing.T) { // P17.3
	requests, readings := requests(), readings()
	responses(func(s policy.Stored) {
		verdicts := make([][]int, len(requests))
		for i, request := range requests {
			for _, now := range readings {
				verdicts[i] = append(verdicts[i], policy.Judge(s, request, now, 0))
			}
			if !slices.IsSorted(verdicts[i]) {
				t.Errorf("the verdicts on %s for %+v at %d are %d", show(s), request, readings, verdicts[i])
			}
		}
		for i, strict := range requests {
			for j, other := range requests {
				if !isStricter(strict, other) {
					continue
				}
				for k, verdict := range verdicts[i] {
					if verdict < verdicts[j][k] {
						t.Errorf("Judge(%s, %+v, %d) = %d, but for %+v it is %d", show(s), strict, readings[k], verdict, other, verdicts[j][k])
					}
				}
			}
		}
	})
}

// keepOrder checks P17.3 for requests that are stricter in one point, and for
// later readings. Where the readings are out of order, a later one may be in
// order, so that the response is of use only then.
func keepOrder(t *testing.T, s policy.Stored, request directive.Directives, now, ppm int) {
	t.Helper()
	verdict := policy.Judge(s, request, now, ppm)
	strict := slices.Repeat([]directive.Directives{request}, 6)
	strict[0].NoCache = true
	strict[1].MaxAge = 0
	strict[2].MaxAge = max(greatestMaxAge(request)-1, 0)
	strict[3].MaxAge = greatestMaxAge(request) / 2
	strict[4].MinFresh = max(request.MinFresh, request.MinFresh+1)
	strict[5].MinFresh = math.MaxInt
	for _, strict := range strict {
		if got := policy.Judge(s, strict, now, ppm); got < verdict {
			t.Errorf("Judge(%s, %+v, %d, %d) = %d, but for %+v it is %d", show(s), strict, now, ppm, got, request, verdict)
		}
	}
	if _, _, err := age.At(s.Times, now, ppm); err != nil {
		return
	}
	for _, more := range []int{1, 999, 1 << 31, api.MaxTime} {
		if got := policy.Judge(s, request, max(now, now+more), ppm); got < verdict {
			t.Errorf("Judge(%s, %+v, %d, %d) = %d, but %d ticks before it is %d", show(s), request, now+more, ppm, got, more, verdict)
		}
	}
}

// randomControl returns a Cache-Control value.
func randomControl(random *rand.Rand) string {
	var list []string
	for range random.Intn(5) {
		name := samples.Some(random, "max-age", "max-age", "Max-Age", "s-maxage", "stale-while-revalidate", "stale-if-error", "max-stale", "min-fresh", "no-cache", "no-store", "must-revalidate", "proxy-revalidate", "public", "x")
		n := strconv.Itoa(random.Intn(1 << random.Intn(34)))
		list = append(list, name+samples.Some(random, "="+n, "="+n, "="+n, "=3", `="`+n+`"`, "", "=x"))
	}
	return strings.Join(list, ",")
}

// randomResponse returns a response that may have been received at any time.
func randomResponse(random *rand.Rand) policy.Stored {
	f := control(randomControl(random))
	for range random.Intn(4) {
		name := samples.Some(random, "date", "expires", "last-modified", "cache-control")
		value := samples.Some(random, date, later, sooner, first, last, "0", randomControl(random))
		f = append(f, field.Field{Name: name, Value: value})
	}
	sent := random.Intn(1 << random.Intn(41))
	received := sent + random.Intn(1<<random.Intn(16)) - random.Intn(2)
	times := age.Times{Sent: sent, Received: received, Age: random.Intn(1<<random.Intn(33)) - 1}
	status := []int{200, 200, 302, 404, 206}[random.Intn(5)]
	return policy.Stored{Status: status, Fields: f, Times: times, HasValidator: random.Intn(2) == 0}
}

// randomReading returns a reading at which the response is more often than not
// of an age near that at which the verdict changes.
func randomReading(random *rand.Rand, s policy.Stored, request directive.Directives) int {
	end := 1 << random.Intn(42)
	if random.Intn(4) > 0 {
		end = referenceDeadlines(s, request)[random.Intn(3)]
	}
	return s.Times.Sent + end - random.Intn(2)*1000*(s.Times.Age+1) + random.Intn(5) - 2
}

func TestRandom(t *testing.T) { // P17.1, P17.3
	random := rand.New(rand.NewSource(1))
	for range 30000 {
		s, request := randomResponse(random), asking(randomControl(random))
		now, ppm := randomReading(random, s, request), max(random.Intn(200000)-99999, 0)
		compare(t, s, request, now, ppm)
		keepOrder(t, s, request, now, ppm)
	}
}

func FuzzPolicies(f *testing.F) { // P17.1, P17.3
	f.Add(200, "max-age=10, stale-while-revalidate=5", "expires", later, true, 0, 0, -1, 10000, 0, "max-stale=100", -1, -1, -1)
	f.Add(404, "stale-if-error=5", "last-modified", sooner, false, 1000, 1500, 7, 3000, 100000, "", 5, 3, -1)
	f.Add(302, "s-maxage=3", "Cache-Control", "must-revalidate", true, 5, 4, 0, 3, 7, "no-cache", math.MaxInt, math.MaxInt, math.MaxInt)
	f.Fuzz(func(t *testing.T, status int, value, name, text string, validator bool, sent, received, seconds, now, ppm int, asked string, maxAge, maxStale, minFresh int) {
		s := policy.Stored{
			Status:       status,
			Fields:       of("cache-control", value, "date", date, name, text),
			Times:        age.Times{Sent: sent, Received: received, Age: seconds},
			HasValidator: validator,
		}
		request := asking(asked)
		compare(t, s, request, now, ppm)
		request.MaxAge, request.MaxStale, request.MinFresh = maxAge, maxStale, minFresh
		compare(t, s, request, now, ppm)
		keepOrder(t, s, request, now, ppm)
		s.Times = age.Times{Age: -1}
		for _, now := range append(referenceDeadlines(s, request), now) {
			compare(t, s, request, now-1, 0)
			compare(t, s, request, now, 0)
			keepOrder(t, s, request, now, 0)
		}
	})
}

func TestLongInputs(t *testing.T) { // P1
	const n = 1 << 17
	var f field.Fields
	for range n {
		f = append(f, of("x", date, "cache-control", "max-age=9, stale-if-error=8")...)
	}
	for _, c := range []struct {
		f               field.Fields
		verdict, limit  int
		servedOnFailure bool
	}{
		{f, policy.Serve, 17000, true},
		{append(control("no-cache"), f...), policy.Validate, 0, false},
		{control(strings.Repeat("max-age=9,", n)), policy.Serve, 9000, true},
		{control("max-age=" + strings.Repeat("9", n)), policy.Serve, most, true},
		{control(strings.Repeat(`"`, n) + `"`), policy.Validate, 0, false},
		{of(strings.Repeat("a", n), date), policy.Validate, 0, false},
		{of("date", date, "expires", strings.Repeat(later, n)), policy.Validate, 0, false},
	} {
		s := atOnce(c.f)
		if got := policy.Judge(s, directive.None(), 8999, 0); got != c.verdict {
			t.Errorf("Judge of %.99q.. = %d; want %d", c.f[:1], got, c.verdict)
		}
		if got := policy.Limit(s); got != c.limit {
			t.Errorf("Limit of %.99q.. = %d; want %d", c.f[:1], got, c.limit)
		}
		if got := policy.OnError(s, 8999, 0); got != c.servedOnFailure {
			t.Errorf("OnError of %.99q.. = %t", c.f[:1], got)
		}
	}
}
