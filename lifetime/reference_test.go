package lifetime_test

import (
	"net/http"
	"regexp"
	"slices"
	"strconv"
	"strings"

	"quayside/directive"
	"quayside/field"
)

// The functions of this file say the same as chapter 14 in another way: by the
// canonical text of the directives, by dates as package net/http reads them, and
// by making a lifetime of each rule and taking the first one, so that the tests
// can compare the package with them. They need not be fast.

const (
	day  = 86400000
	most = 2147483647000
)

var (
	cacheablePattern = regexp.MustCompile(`\A(20[0346]|30[018]|4(04|05|10|14)|501)\z`)
	negativePattern  = regexp.MustCompile(`\A[45]`)
	strictPattern    = regexp.MustCompile(`\b(no-cache|must-revalidate|s-maxage)\b`)
)

// referenceValues returns the values of the fields whose names are the name in
// any case. (The letters that Unicode has beside those of ASCII are longer.)
func referenceValues(f field.Fields, name string) []string {
	f = slices.DeleteFunc(slices.Clone(f), func(x field.Field) bool {
		return len(x.Name) != len(name) || !strings.EqualFold(x.Name, name)
	})
	var values []string
	for _, x := range f {
		values = append(values, x.Value)
	}
	return values
}

// referenceDates returns the dates of the valid date fields of the name: one, or
// none.
func referenceDates(f field.Fields, name string) []int {
	values := referenceValues(f, name)
	if len(values) != 1 {
		return nil
	}
	// Package net/http permits older forms, years before 1970 and more.
	date, err := http.ParseTime(values[0])
	if err != nil || date.UTC().Format(http.TimeFormat) != values[0] || date.Unix() < 0 {
		return nil
	}
	return []int{int(date.Unix())}
}

// referenceTimes returns the times of the directive of the name in ticks: one,
// or none.
func referenceTimes(f field.Fields, name string) []int {
	text := ", " + directive.Format(directive.Parse(f))
	var times []int
	for _, m := range regexp.MustCompile(`, `+name+`=([0-9]+)`).FindAllStringSubmatch(text, -1) {
		n, err := strconv.Atoi(m[1] + "000")
		if err != nil {
			panic(err)
		}
		times = append(times, n)
	}
	return times
}

// referenceLater returns the ticks by which each of the second dates is later
// than each of the first ones, if it is: one number, or none.
func referenceLater(first, second []int) []int {
	var times []int
	for _, a := range first {
		for _, b := range second {
			if a < b {
				times = append(times, 1000*b-1000*a)
			}
		}
	}
	return times
}

// referenceExpires returns the ticks from Date to Expires, or 0: one number, or
// none if there is no Expires.
func referenceExpires(f field.Fields) []int {
	if len(referenceValues(f, "expires")) == 0 {
		return nil
	}
	times := referenceLater(referenceDates(f, "date"), referenceDates(f, "expires"))
	return append(times, 0)[:1]
}

func referenceCacheable(status int) bool {
	return cacheablePattern.MatchString(strconv.Itoa(status))
}

// referenceHeuristic returns the ticks of rule 4: one number, or none.
func referenceHeuristic(status int, f field.Fields) []int {
	if !referenceCacheable(status) {
		return nil
	}
	limit := day
	if negativePattern.MatchString(strconv.Itoa(status)) {
		limit = 10000
	}
	var times []int
	for _, n := range referenceLater(referenceDates(f, "last-modified"), referenceDates(f, "date")) {
		tenth := (n - n%10) / 10
		if tenth > limit {
			tenth = limit
		}
		times = append(times, tenth)
	}
	return times
}

func referenceOf(status int, f field.Fields) (ticks, kind int) {
	for i, times := range [][]int{
		referenceTimes(f, "s-maxage"),
		referenceTimes(f, "max-age"),
		referenceExpires(f),
		referenceHeuristic(status, f),
	} {
		if len(times) > 0 {
			return times[0], i + 1
		}
	}
	return 0, 5
}

func referenceExplicit(f field.Fields) bool {
	// No rule finds a lifetime for the status 0, but for those three.
	_, kind := referenceOf(0, f)
	return kind < 4
}

func referenceAllowance(f field.Fields) (while, onError int) {
	if strictPattern.MatchString(directive.Format(directive.Parse(f))) {
		return 0, 0
	}
	while = append(referenceTimes(f, "stale-while-revalidate"), 0)[0]
	onError = append(referenceTimes(f, "stale-if-error"), 0)[0]
	return while, onError
}
