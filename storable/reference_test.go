package storable_test

import (
	"regexp"
	"slices"
	"strconv"
	"strings"

	"quayside/api"
	"quayside/directive"
	"quayside/field"
	"quayside/httpdate"
	"quayside/lifetime"
)

// The functions of this file say the same as chapter 15 in another way: by
// asking of all reasons whether they apply, by the canonical text of the
// directives, by regular expressions for lists, tags and statuses, and by
// looking at all pairs of fields, so that the tests can compare the package with
// them. They need not be fast.

var (
	wholePattern   = regexp.MustCompile(`\A[2-5][0-9][0-9]\z`)
	bodyPattern    = regexp.MustCompile(`(?i)\Acontent-(length|encoding|range)\z`)
	tagPattern     = regexp.MustCompile(`\A(?:W/)?("[^\x00-\x20"\x7f]*")\z`)
	quotedPattern  = regexp.MustCompile(`(?s)"(?:[^"\\]|\\.)*"`)
	controlPattern = regexp.MustCompile(`[\x00-\x08\x0a-\x1f\x7f]`)
	starPattern    = regexp.MustCompile(`(?:\A|,)[ \t]*\*[ \t]*(?:,|\z)`)
)

// lower changes A to Z alone, and works on bytes.
var lower = letterReplacer()

func letterReplacer() *strings.Replacer {
	var pairs []string
	for c := 'a'; c <= 'z'; c++ {
		pairs = append(pairs, strings.ToUpper(string(c)), string(c))
	}
	return strings.NewReplacer(pairs...)
}

// referenceValues returns the values of the fields of the name, which is in
// lower case.
func referenceValues(f field.Fields, name string) []string {
	var values []string
	for _, x := range f {
		if lower.Replace(x.Name) == name {
			values = append(values, x.Value)
		}
	}
	return values
}

// says reports whether the directives of the fields have one of the names.
func says(f field.Fields, names string) bool {
	text := directive.Format(directive.Parse(f))
	return regexp.MustCompile(`(?:\A|, )(?:` + names + `)(?:=|,|\z)`).MatchString(text)
}

// referenceAll reports whether one of the lists has a *, or is none.
func referenceAll(lists []string) bool {
	return slices.ContainsFunc(lists, func(s string) bool {
		unquoted := quotedPattern.ReplaceAllString(s, "q")
		return controlPattern.MatchString(s) || strings.Contains(unquoted, `"`) || starPattern.MatchString(unquoted)
	})
}

func referenceStatus(status int, response field.Fields) bool {
	text := strconv.Itoa(status)
	return !wholePattern.MatchString(text) || text == "206" || text == "304" ||
		!lifetime.Cacheable(status) && !lifetime.Explicit(response)
}

func referenceShort(status int, response field.Fields) bool {
	tags, dates := referenceValues(response, "etag"), referenceValues(response, "last-modified")
	if len(tags) == 1 && tagPattern.MatchString(tags[0]) {
		return false
	}
	if len(dates) == 1 {
		if _, err := httpdate.Parse(dates[0]); err == nil {
			return false
		}
	}
	ticks, kind := lifetime.Of(status, response)
	return ticks == 0 && kind == 5
}

// referenceReasons tells of each reason, in order, whether it applies.
func referenceReasons(method string, request field.Fields, status int, response field.Fields) []bool {
	return []bool{
		method != "GET",
		referenceStatus(status, response),
		says(request, "no-store") || says(response, "no-store"),
		says(response, "private"),
		len(referenceValues(response, "set-cookie")) > 0,
		referenceAll(referenceValues(response, "vary")),
		len(referenceValues(request, "authorization")) > 0 && !says(response, "public|must-revalidate|s-maxage"),
		referenceShort(status, response),
	}
}

func referenceOf(method string, request field.Fields, status int, response field.Fields) int {
	reasons := append(referenceReasons(method, request, status, response), true)
	return (slices.Index(reasons, true) + 1) % len(reasons)
}

// referencePut returns the fields of a 304 that replace others.
func referencePut(fresh field.Fields) field.Fields {
	return slices.DeleteFunc(field.Strip(fresh), func(x field.Field) bool {
		return bodyPattern.MatchString(x.Name)
	})
}

// referenceMixed reports whether the tags of the two differ.
func referenceMixed(stored, fresh field.Fields) bool {
	a, b := referenceValues(stored, "etag"), referenceValues(fresh, "etag")
	if len(a)*len(b) == 0 || slices.Equal(a, b) {
		return false
	}
	if len(a) > 1 || len(b) > 1 {
		return true
	}
	first, second := tagPattern.FindStringSubmatch(a[0]), tagPattern.FindStringSubmatch(b[0])
	return first == nil || second == nil || first[1] != second[1]
}

func referenceUpdate(stored, fresh field.Fields) (field.Fields, error) {
	if referenceMixed(stored, fresh) {
		return nil, api.ErrMixed
	}
	put := referencePut(fresh)
	var all field.Fields
	for _, x := range stored {
		lost := false
		for _, y := range put {
			lost = lost || lower.Replace(x.Name) == lower.Replace(y.Name)
		}
		if !lost {
			all = append(all, x)
		}
	}
	for _, y := range put {
		all = append(all, y)
	}
	return all, nil
}
