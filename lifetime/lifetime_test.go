package lifetime_test

import (
	"math"
	"math/rand"
	"slices"
	"strconv"
	"strings"
	"testing"
	"time"

	"quayside/field"
	"quayside/lifetime"
	"quayside/samples"
)

const (
	date, later, sooner = samples.Date, samples.Later, samples.Sooner
	first, last         = samples.FirstDate, samples.LastDate
)

const (
	second   = 784111777    // of date
	lastDate = 253402300799 // of last
)

// of returns the fields with the names and values given in turn.
var of = samples.Fields

// control returns a cache-control field with the value, and the other fields.
func control(value string, others ...string) field.Fields {
	return of(append([]string{"cache-control", value}, others...)...)
}

// dateText returns the text of the date.
func dateText(seconds int) string {
	return time.Unix(int64(seconds), 0).UTC().Format("Mon, 02 Jan 2006 15:04:05 GMT")
}

// noDates are values that are no dates, although some differ little from one.
var noDates = []string{
	"", "0", "-1", "784111777", "x", " " + date, date + " ", date + ", " + date, date + "," + date, `"` + date + `"`, date[:28], date[1:], date + "T",
	"Mon, 06 Nov 1994 08:49:37 GMT", "sun, 06 Nov 1994 08:49:37 GMT", "Sun, 06 nov 1994 08:49:37 GMT", "Sun, 06 Nov 1994 08:49:37 gmt", "Sun, 06 Nov 1994 08:49:37 UTC", "Sun, 06 Nov 1994 08:49:37 +00",
	"Sun, 6 Nov 1994 08:49:37 GMT", "Sun,  6 Nov 1994 08:49:37 GMT", "Sun, 06 Nov 1994 8:49:37 GMT", "Sun, 06 Nov 1994 08:49:60 GMT", "Sun, 06 Nov 1994 24:49:37 GMT", "Sun, 06 Nov 94 08:49:37 GMT", "Wed, 30 Feb 1994 08:49:37 GMT",
	"Sunday, 06-Nov-94 08:49:37 GMT", "Sun Nov  6 08:49:37 1994", "1994-11-06T08:49:37Z", "Wed, 31 Dec 1969 23:59:59 GMT", "Sat, 01 Jan 0000 00:00:00 GMT", "Sat, 01 Jan 10000 00:00:00 GMT", "\xff", "Sun,\t06 Nov 1994 08:49:37 GMT",
}

// statuses are the cacheable ones, and some others.
var statuses = []int{200, 203, 204, 206, 300, 301, 308, 404, 405, 410, 414, 501, 0, -200, 201, 302, 304, 400, 403, 500, 503, 2000}

// compare checks all functions against reference_test.go, and P14.2.
func compare(t *testing.T, status int, f field.Fields) {
	t.Helper()
	kept := slices.Clone(f)
	ticks, kind := lifetime.Of(status, f)
	if wantTicks, wantKind := referenceOf(status, f); ticks != wantTicks || kind != wantKind {
		t.Errorf("Of(%d, %.300q) = %d, %d; want %d, %d", status, f, ticks, kind, wantTicks, wantKind)
	}
	explicit := lifetime.Explicit(f)
	if want := referenceExplicit(f); explicit != want {
		t.Errorf("Explicit(%.300q) = %t", f, explicit)
	}
	while, onError := lifetime.Allowance(f)
	if wantWhile, wantOnError := referenceAllowance(f); while != wantWhile || onError != wantOnError {
		t.Errorf("Allowance(%.300q) = %d, %d; want %d, %d", f, while, onError, wantWhile, wantOnError)
	}
	if got, want := lifetime.Cacheable(status), referenceCacheable(status); got != want {
		t.Errorf("Cacheable(%d) = %t", status, got)
	}
	if !slices.Equal(f, kept) {
		t.Errorf("the fields %.300q were changed to %.300q", kept, f)
	}
	keepBounds(t, status, f)
}

// keepBounds checks P14.2, and that Explicit tells of the kinds.
func keepBounds(t *testing.T, status int, f field.Fields) {
	t.Helper()
	ticks, kind := lifetime.Of(status, f)
	greatest := map[int]int{
		lifetime.Shared:    most,
		lifetime.Max:       most,
		lifetime.Expires:   1000 * lastDate,
		lifetime.Heuristic: day,
		lifetime.None:      0,
	}
	limit, known := greatest[kind]
	if !known || ticks < 0 || ticks > limit {
		t.Errorf("Of(%d, %.300q) = %d, %d", status, f, ticks, kind)
	}
	explicit := lifetime.Explicit(f)
	if explicit != (kind == lifetime.Shared || kind == lifetime.Max || kind == lifetime.Expires) {
		t.Errorf("Of(%d, %.300q) has the kind %d, but Explicit = %t", status, f, kind, explicit)
	}
	if !explicit && ticks > day {
		t.Errorf("Of(%d, %.300q) = %d, which is more than a day", status, f, ticks)
	}
	while, onError := lifetime.Allowance(f)
	if min(while, onError) < 0 || max(while, onError) > most {
		t.Errorf("Allowance(%.300q) = %d, %d", f, while, onError)
	}
}

func TestKinds(t *testing.T) { // P14.1
	kinds := []int{lifetime.Shared, lifetime.Max, lifetime.Expires, lifetime.Heuristic, lifetime.None}
	if !slices.Equal(kinds, []int{1, 2, 3, 4, 5}) {
		t.Errorf("the kinds are %d", kinds)
	}
}

type lifetimeCase struct {
	status int
	f      field.Fields
	ticks  int
	kind   int
}

func checkLifetimes(t *testing.T, cases []lifetimeCase) {
	t.Helper()
	for _, c := range cases {
		if ticks, kind := lifetime.Of(c.status, c.f); ticks != c.ticks || kind != c.kind {
			t.Errorf("Of(%d, %.300q) = %d, %d; want %d, %d", c.status, c.f, ticks, kind, c.ticks, c.kind)
		}
		if got, want := lifetime.Explicit(c.f), c.kind <= lifetime.Expires; got != want {
			t.Errorf("Explicit(%.300q) = %t", c.f, got)
		}
		compare(t, c.status, c.f)
	}
}

func TestExamples(t *testing.T) { // P14.1
	checkLifetimes(t, []lifetimeCase{
		{200, control("max-age=60, s-maxage=10"), 10000, lifetime.Shared},
		{200, of("date", date, "expires", later), 60000, lifetime.Expires},
		{200, of("date", date, "expires", "0"), 0, lifetime.Expires},
		{200, of("date", date, "last-modified", sooner), 100000, lifetime.Heuristic},
		{404, of("date", date, "last-modified", sooner), 10000, lifetime.Heuristic},
		{302, of("date", date, "last-modified", sooner), 0, lifetime.None},
	})
}

func TestDirectives(t *testing.T) { // P14.1, P14.2
	for _, status := range statuses {
		checkLifetimes(t, []lifetimeCase{
			{status, control("s-maxage=0"), 0, lifetime.Shared},
			{status, control("s-maxage=1"), 1000, lifetime.Shared},
			{status, control("s-maxage=60, max-age=10"), 60000, lifetime.Shared},
			{status, control("max-age=60, s-maxage=0"), 0, lifetime.Shared},
			{status, control("s-maxage"), 0, lifetime.Shared},
			{status, control("s-maxage=x, max-age=5"), 0, lifetime.Shared},
			{status, control("s-maxage=9, s-maxage=7, s-maxage=8"), 7000, lifetime.Shared},
			{status, control("S-MaxAge=\"7\""), 7000, lifetime.Shared},
			{status, control("s-maxage=2147483646"), most - 1000, lifetime.Shared},
			{status, control("s-maxage=2147483647"), most, lifetime.Shared},
			{status, control("s-maxage=2147483648"), most, lifetime.Shared},
			{status, control("s-maxage=99999999999999999999"), most, lifetime.Shared},
			{status, control("max-age=0"), 0, lifetime.Max},
			{status, control("max-age=1"), 1000, lifetime.Max},
			{status, control("max-age=60"), 60000, lifetime.Max},
			{status, control("max-age"), 0, lifetime.Max},
			{status, control("max-age=-1"), 0, lifetime.Max},
			{status, control("max-age=60, max-age=x"), 0, lifetime.Max},
			{status, control("max-age=60, max-age=30"), 30000, lifetime.Max},
			{status, control("max-age=2147483647"), most, lifetime.Max},
			{status, control("max-age=18446744073709551617"), most, lifetime.Max},
			{status, control("max-age=60, s-maxage =10"), 60000, lifetime.Max},
			{status, control("max-age=60, no-store, no-cache, private, must-revalidate, x=1"), 60000, lifetime.Max},
			{status, control("max-age=60", "Cache-Control", "s-maxage=5"), 5000, lifetime.Shared},
			{status, control(`max-age=60, x="`, "cache-control", "max-age=5"), 5000, lifetime.Max},
			{status, control(`max-age=60, x="`), 0, lifetime.None},
			{status, control("min-fresh=5, max-stale=6, stale-while-revalidate=7, stale-if-error=8, public"), 0, lifetime.None},
			{status, of("surrogate-control", "max-age=5", "max-age", "5", "s-maxage", "5", "pragma", "no-cache"), 0, lifetime.None},
			{status, nil, 0, lifetime.None},
		})
	}
}

func TestOrderOfTheRules(t *testing.T) { // P14.1
	all := []string{"date", date, "expires", later, "last-modified", sooner}
	checkLifetimes(t, []lifetimeCase{
		{200, control("s-maxage=1, max-age=2", all...), 1000, lifetime.Shared},
		{200, control("max-age=2, s-maxage=0", all...), 0, lifetime.Shared},
		{200, control("max-age=2", all...), 2000, lifetime.Max},
		{200, control("max-age=0", all...), 0, lifetime.Max},
		{200, control("max-age=x", all...), 0, lifetime.Max},
		{200, control("public", all...), 60000, lifetime.Expires},
		{200, control("max-age=2", "expires", "0"), 2000, lifetime.Max},
		{200, of(all...), 60000, lifetime.Expires},
		{404, of(all...), 60000, lifetime.Expires},
		{302, of(all...), 60000, lifetime.Expires},
		{200, of("date", date, "expires", sooner, "last-modified", sooner), 0, lifetime.Expires},
		{200, of("date", date, "expires", "", "last-modified", sooner), 0, lifetime.Expires},
		{200, of("date", date, "last-modified", sooner, "expires", later, "expires", later), 0, lifetime.Expires},
		{200, control("public", "date", date, "last-modified", sooner), 100000, lifetime.Heuristic},
		{200, control("no-store, no-cache, must-revalidate", "date", date, "last-modified", sooner), 100000, lifetime.Heuristic},
	})
}

func TestExpires(t *testing.T) { // P14.1, P14.2
	for _, status := range statuses {
		checkLifetimes(t, []lifetimeCase{
			{status, of("expires", later), 0, lifetime.Expires},
			{status, of("expires", ""), 0, lifetime.Expires},
			{status, of("expires", later, "last-modified", sooner), 0, lifetime.Expires},
			{status, of("date", date, "expires", date), 0, lifetime.Expires},
			{status, of("date", later, "expires", date), 0, lifetime.Expires},
			{status, of("date", date, "expires", dateText(second+1)), 1000, lifetime.Expires},
			{status, of("date", date, "expires", dateText(second-1)), 0, lifetime.Expires},
			{status, of("date", first, "expires", last), 253402300799000, lifetime.Expires},
			{status, of("date", last, "expires", first), 0, lifetime.Expires},
			{status, of("EXPIRES", later, "x", "y", "Date", date), 60000, lifetime.Expires},
			{status, of("date", date, "expires", later, "Expires", later), 0, lifetime.Expires},
			{status, of("date", date, "expires", later, "expires", "0"), 0, lifetime.Expires},
			{status, of("date", date, "expires", later, "date", date), 0, lifetime.Expires},
			{status, of("date", date, "DATE", "", "expires", later), 0, lifetime.Expires},
			{status, of("date", date, "expire", later, "expiress", later, "expires ", later), 0, lifetime.None},
			{status, of("last-modified", date, "expires", later), 0, lifetime.Expires},
		})
		for _, s := range noDates {
			checkLifetimes(t, []lifetimeCase{
				{status, of("date", date, "expires", s), 0, lifetime.Expires},
				{status, of("date", s, "expires", later), 0, lifetime.Expires},
				{status, of("date", s, "expires", s), 0, lifetime.Expires},
			})
		}
	}
}

// unchanged returns the fields of a response that did not change for so many
// seconds.
func unchanged(seconds int) field.Fields {
	return of("last-modified", date, "date", dateText(second+seconds))
}

func TestHeuristic(t *testing.T) { // P14.1, P14.2
	for _, c := range []struct{ seconds, ticks, negative int }{
		{1, 100, 100},
		{2, 200, 200},
		{9, 900, 900},
		{11, 1100, 1100},
		{99, 9900, 9900},
		{100, 10000, 10000},
		{101, 10100, 10000},
		{86400, 8640000, 10000},
		{863999, 86399900, 10000},
		{864000, 86400000, 10000},
		{864001, 86400000, 10000},
		{1 << 31, 86400000, 10000},
		{lastDate - second, 86400000, 10000},
	} {
		f := unchanged(c.seconds)
		for _, status := range []int{200, 203, 204, 206, 300, 301, 308} {
			checkLifetimes(t, []lifetimeCase{{status, f, c.ticks, lifetime.Heuristic}})
		}
		for _, status := range []int{404, 405, 410, 414, 501} {
			checkLifetimes(t, []lifetimeCase{{status, f, c.negative, lifetime.Heuristic}})
		}
		for _, status := range []int{-404, 0, 20, 100, 201, 202, 205, 302, 303, 304, 307, 400, 403, 416, 500, 502, 503, 504, 2000} {
			checkLifetimes(t, []lifetimeCase{{status, f, 0, lifetime.None}})
		}
	}
	for seconds := -second; seconds <= 0; seconds += second / 7 {
		for _, status := range statuses {
			checkLifetimes(t, []lifetimeCase{{status, unchanged(seconds), 0, lifetime.None}})
		}
	}
}

func TestHeuristicNeedsValidDates(t *testing.T) { // P14.1
	for _, status := range statuses {
		for _, f := range []field.Fields{
			of("date", date),
			of("last-modified", sooner),
			of("date", date, "last-modified", date),
			of("date", sooner, "last-modified", date),
			of("date", date, "last-modified", sooner, "last-modified", sooner),
			of("date", date, "date", date, "last-modified", sooner),
			of("date", date, "date", "", "last-modified", sooner),
			of("date", date, "last-modified", sooner, "LAST-MODIFIED", "x"),
			of("date", date, "last_modified", sooner, "lastmodified", sooner, "last-modified ", sooner),
		} {
			checkLifetimes(t, []lifetimeCase{{status, f, 0, lifetime.None}})
		}
		for _, s := range noDates {
			checkLifetimes(t, []lifetimeCase{
				{status, of("date", date, "last-modified", s), 0, lifetime.None},
				{status, of("date", s, "last-modified", sooner), 0, lifetime.None},
				{status, of("date", s, "last-modified", s), 0, lifetime.None},
			})
		}
	}
	checkLifetimes(t, []lifetimeCase{
		{200, of("Last-Modified", sooner, "x", date, "DATE", date), 100000, lifetime.Heuristic},
		{200, of("date", last, "last-modified", first), 86400000, lifetime.Heuristic},
	})
}

func TestDatesInTwoFields(t *testing.T) { // P14.1
	// Joined by a comma and a blank, as field.Get does, these are dates.
	checkLifetimes(t, []lifetimeCase{
		{200, of("date", "Sun", "date", date[5:], "expires", later), 0, lifetime.Expires},
		{200, of("date", date, "expires", "Sun", "expires", later[5:]), 0, lifetime.Expires},
		{200, of("date", "Sun", "date", date[5:], "last-modified", sooner), 0, lifetime.None},
		{200, of("date", date, "last-modified", "Sun", "last-modified", sooner[5:]), 0, lifetime.None},
	})
}

func TestCacheable(t *testing.T) { // P14.1
	cacheable := []int{200, 203, 204, 206, 300, 301, 308, 404, 405, 410, 414, 501}
	check := func(status int) {
		if got := lifetime.Cacheable(status); got != slices.Contains(cacheable, status) {
			t.Errorf("Cacheable(%d) = %t", status, got)
		}
		compare(t, status, of("date", date, "last-modified", sooner))
	}
	for status := -1000; status < 10000; status++ {
		check(status)
	}
	for _, status := range samples.Around(200, 1<<8+200, 1<<16+404, 1<<32+200) {
		check(status)
	}
}

func TestAllowance(t *testing.T) { // P14.1, P14.2
	for _, c := range []struct {
		value          string
		while, onError int
	}{
		{"max-age=1, stale-while-revalidate=5, stale-if-error=9", 5000, 9000},
		{"max-age=1, stale-while-revalidate=5, stale-if-error=9, must-revalidate", 0, 0},
		{"max-age=1, stale-while-revalidate=5, stale-if-error=9, proxy-revalidate", 0, 0},
		{"max-age=1, stale-while-revalidate=5, stale-if-error=9, no-cache", 0, 0},
		{`max-age=1, stale-while-revalidate=5, stale-if-error=9, no-cache="x"`, 0, 0},
		{"max-age=1, stale-while-revalidate=5, stale-if-error=9, s-maxage=7", 0, 0},
		{"s-maxage=0, stale-while-revalidate=5, stale-if-error=9", 0, 0},
		{"s-maxage, stale-while-revalidate=5, stale-if-error=9", 0, 0},
		{"s-maxage=x, stale-while-revalidate=5", 0, 0},
		{"Must-Revalidate, stale-if-error=9", 0, 0},
		{"stale-while-revalidate=5", 5000, 0},
		{"stale-if-error=9", 0, 9000},
		{"stale-while-revalidate=0, stale-if-error=1", 0, 1000},
		{"stale-while-revalidate=1, stale-if-error=0", 1000, 0},
		{"stale-while-revalidate, stale-if-error=x", 0, 0},
		{"stale-while-revalidate=5, stale-while-revalidate=4, stale-if-error=9, stale-if-error", 4000, 0},
		{"stale-while-revalidate=2147483647, stale-if-error=2147483646", most, most - 1000},
		{"stale-while-revalidate=2147483648, stale-if-error=99999999999999999999", most, most},
		{"no-store, private, public, only-if-cached, max-age=0, max-stale=1, min-fresh=2, stale-while-revalidate=5, stale-if-error=9", 5000, 9000},
		{"must-revalidat, no-cach, s-max-age=1, stale-while-revalidate=5, stale-if-error=9", 5000, 9000},
		{`stale-while-revalidate=5, x="`, 0, 0},
		{"max-stale=5, max-age=6", 0, 0},
		{"", 0, 0},
	} {
		for _, f := range []field.Fields{control(c.value), control("", "CACHE-CONTROL", c.value), of("date", date, "expires", "0", "Cache-Control", c.value, "pragma", "no-cache")} {
			if while, onError := lifetime.Allowance(f); while != c.while || onError != c.onError {
				t.Errorf("Allowance(%q) = %d, %d; want %d, %d", f, while, onError, c.while, c.onError)
			}
			compare(t, 200, f)
		}
	}
	f := control("stale-while-revalidate=5", "cache-control", "stale-if-error=9", "cache-control", `x="`)
	if while, onError := lifetime.Allowance(f); while != 5000 || onError != 9000 {
		t.Errorf("Allowance(%q) = %d, %d", f, while, onError)
	}
	if while, onError := lifetime.Allowance(nil); while != 0 || onError != 0 {
		t.Errorf("Allowance of nothing = %d, %d", while, onError)
	}
}

func TestSetsOfDirectives(t *testing.T) { // P14.1, P14.2
	list := []string{
		"no-store", "no-cache", "private", "must-revalidate", "proxy-revalidate", "max-age=60", "max-age", "s-maxage=10",
		"stale-while-revalidate=5", "stale-if-error=9", "max-stale=3", "min-fresh=4", "public",
	}
	samples.Subsets(list, func(list []string) {
		f := control(strings.Join(list, ", "), "date", date, "last-modified", sooner)
		compare(t, 200, f)
		// Nothing but these counts against an allowance.
		strict := slices.ContainsFunc(list, func(s string) bool {
			return s == "no-cache" || strings.HasSuffix(s, "-revalidate") || s == "s-maxage=10"
		})
		while, onError := lifetime.Allowance(f)
		allowed := slices.Contains(list, "stale-while-revalidate=5") && !strict
		if (while == 5000) != allowed || !allowed && while != 0 {
			t.Errorf("Allowance(%q) = %d, %d", f, while, onError)
		}
		allowed = slices.Contains(list, "stale-if-error=9") && !strict
		if (onError == 9000) != allowed || !allowed && onError != 0 {
			t.Errorf("Allowance(%q) = %d, %d", f, while, onError)
		}
	})
}

func TestSetsOfFields(t *testing.T) { // P14.1, P14.2
	list := []string{
		"date:" + date, "Date:" + later, "expires:" + later, "Expires:0", "last-modified:" + sooner, "Last-Modified:x",
		"cache-control:max-age=7", "Cache-Control:s-maxage=8, stale-if-error=5", "cache-control:public, stale-while-revalidate=6", "x:" + date,
	}
	samples.Subsets(list, func(list []string) {
		var f field.Fields
		for _, text := range list {
			name, value, _ := strings.Cut(text, ":")
			f = append(f, field.Field{Name: name, Value: value})
		}
		for _, status := range []int{200, 404, 302} {
			compare(t, status, f)
			slices.Reverse(f)
		}
	})
}

func TestDatesInAnyOrder(t *testing.T) { // P14.1, P14.2
	var dates []string
	for _, seconds := range []int{0, 1, 86400, second - 864001, second - 864000, second - 863999, second - 101, second - 100, second - 99, second - 1, second, second + 1, second + 60, 1<<31 - 1, 1 << 31, 1 << 32, lastDate - 1, lastDate} {
		dates = append(dates, dateText(seconds))
	}
	for _, a := range dates {
		for _, b := range dates {
			for _, status := range []int{200, 404, 302} {
				compare(t, status, of("date", a, "expires", b))
				compare(t, status, of("date", a, "last-modified", b))
			}
		}
	}
}

func TestEachByteOfADate(t *testing.T) { // P14.1
	samples.Edits(date, func(s string) {
		compare(t, 200, of("date", date, "expires", s))
		compare(t, 200, of("date", s, "expires", last))
		compare(t, 200, of("date", s, "last-modified", sooner))
		compare(t, 200, of("date", last, "last-modified", s))
	})
}

func TestEachByteOfAName(t *testing.T) { // P14.1
	for _, fields := range [][]string{{"expires", later}, {"last-modified", sooner}} {
		samples.Edits(fields[0], func(s string) {
			compare(t, 200, of("date", date, s, fields[1]))
		})
	}
	samples.Edits("date", func(s string) {
		compare(t, 200, of(s, date, "expires", later))
		compare(t, 200, of(s, date, "last-modified", sooner))
	})
	samples.Edits("cache-control", func(s string) {
		compare(t, 200, of(s, "max-age=5, stale-if-error=6"))
	})
}

// randomDirectives returns a Cache-Control value.
func randomDirectives(random *rand.Rand) string {
	var list []string
	for range random.Intn(6) {
		name := samples.Some(random, "max-age", "s-maxage", "stale-while-revalidate", "stale-if-error", "no-cache", "no-store", "must-revalidate", "proxy-revalidate", "public", "Max-Age", "max-stale", "x")
		n := strconv.Itoa(random.Intn(1 << random.Intn(36)))
		list = append(list, name+samples.Some(random, "="+n, "="+n, "="+n, "", `="`+n+`"`, "=x", `="`))
	}
	return strings.Join(list, samples.Some(random, ", ", ","))
}

// randomDate returns a value that is more often than not a date, and more often
// than not near that of the examples.
func randomDate(random *rand.Rand) string {
	switch random.Intn(8) {
	case 0:
		return samples.Some(random, noDates...)
	case 1:
		return dateText(random.Intn(lastDate + 1))
	case 2:
		return samples.Spoil(random, date, "0", "9", " ", "GMT", "\xff")
	}
	return dateText(second + random.Intn(1<<random.Intn(22)) - random.Intn(1<<random.Intn(22)))
}

func randomFields(random *rand.Rand) field.Fields {
	var f field.Fields
	for range random.Intn(7) {
		name := samples.Some(random, "date", "Date", "date", "expires", "last-modified", "Last-Modified", "EXPIRES")
		f = append(f, field.Field{Name: name, Value: randomDate(random)})
	}
	for range random.Intn(3) {
		f = append(f, field.Field{Name: samples.Some(random, "cache-control", "Cache-Control"), Value: randomDirectives(random)})
	}
	random.Shuffle(len(f), func(i, j int) { f[i], f[j] = f[j], f[i] })
	return f
}

func TestRandom(t *testing.T) { // P14.1, P14.2
	random := rand.New(rand.NewSource(1))
	for range 30000 {
		status := statuses[random.Intn(len(statuses))]
		if random.Intn(4) == 0 {
			status = int(random.Uint64()) >> random.Intn(64)
		}
		compare(t, status, randomFields(random))
	}
}

func FuzzLifetimes(f *testing.F) { // P14.1, P14.2
	f.Add(200, "max-age=60, s-maxage=10", "stale-if-error=5", date, "expires", later, "Last-Modified", sooner)
	f.Add(404, "public", "", date, "date", date, "last-modified", first)
	f.Add(302, `x="`, "max-age=1", last, "x", "0", "Expires", "0")
	f.Fuzz(func(t *testing.T, status int, value, more, when, name, text, other, last string) {
		compare(t, status, of("cache-control", value, "date", when, name, text, "Cache-Control", more, other, last))
		compare(t, status, of("date", when, "expires", text))
		compare(t, status, of("date", when, "last-modified", last))
		compare(t, 200, control(value, "date", text, "last-modified", last))
	})
}

func TestLongInputs(t *testing.T) { // P1
	const n = 1 << 17
	var f field.Fields
	for range n {
		f = append(f, of("x", date, "cache-control", "max-age=9, stale-if-error=8")...)
	}
	for _, c := range []lifetimeCase{
		{200, f, 9000, lifetime.Max},
		{200, append(of("cache-control", "s-maxage=7"), f...), 7000, lifetime.Shared},
		{200, control(strings.Repeat("max-age=9,", n)), 9000, lifetime.Max},
		{200, control("max-age=" + strings.Repeat("9", n)), most, lifetime.Max},
		{200, control(strings.Repeat(`"`, n) + `"`), 0, lifetime.None},
		{200, of("date", date, "expires", strings.Repeat(later, n)), 0, lifetime.Expires},
		{200, of("date", date, "last-modified", strings.Repeat(" ", n)), 0, lifetime.None},
		{math.MinInt, of(strings.Repeat("a", n), date), 0, lifetime.None},
	} {
		if ticks, kind := lifetime.Of(c.status, c.f); ticks != c.ticks || kind != c.kind {
			t.Errorf("Of %.99q..: %d, %d; want %d, %d", c.f[:1], ticks, kind, c.ticks, c.kind)
		}
		if got, want := lifetime.Explicit(c.f), c.kind <= lifetime.Expires; got != want {
			t.Errorf("Explicit of %.99q..: %t", c.f[:1], got)
		}
		keepBounds(t, c.status, c.f)
	}
	if while, onError := lifetime.Allowance(f); while != 0 || onError != 8000 {
		t.Errorf("Allowance = %d, %d", while, onError)
	}
}
