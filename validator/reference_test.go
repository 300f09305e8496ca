package validator_test

import (
	"regexp"
	"strings"
	"time"

	"quayside/api"
	"quayside/field"
	"quayside/validator"
)

// The functions of this file say the same as chapter 10 in another way, by
// regular expressions for whole values, by the calendar of package time (which
// never reads the machine's clock here), and by asking of every condition
// whether it holds before the steps are taken, so that the tests can compare
// the package with them. They need not be fast.

const (
	layout  = "Mon, 02 Jan 2006 15:04:05 GMT"
	tagText = `[^\x00-\x20"\x7f]*` // for bytes that are no UTF-8 also
	tag     = `(W/)?"(` + tagText + `)"`
)

var (
	textPattern = regexp.MustCompile(`\A` + tagText + `\z`)
	tagPattern  = regexp.MustCompile(`\A` + tag + `\z`)
	anyPattern  = regexp.MustCompile(`\A[ \t]*\*[ \t]*\z`)
	listPattern = regexp.MustCompile(`\A[ \t,]*` + tag + `(?:[ \t]*,[ \t,]*` + tag + `)*[ \t,]*\z`)
	listElement = regexp.MustCompile(tag)
)

func referenceReadTag(s string) (validator.Tag, error) {
	m := tagPattern.FindStringSubmatch(s)
	if m == nil {
		return validator.Tag{}, api.ErrForm
	}
	return validator.Tag{Weak: m[1] != "", Text: m[2]}, nil
}

func referenceWriteTag(tag validator.Tag) (string, error) {
	switch {
	case !textPattern.MatchString(tag.Text):
		return "", api.ErrForm
	case tag.Weak:
		return "W/\"" + tag.Text + "\"", nil
	}
	return "\"" + tag.Text + "\"", nil
}

func referenceReadTags(s string) ([]validator.Tag, bool, error) {
	if anyPattern.MatchString(s) {
		return nil, true, nil
	}
	if !listPattern.MatchString(s) {
		return nil, false, api.ErrForm
	}
	var list []validator.Tag
	for _, m := range listElement.FindAllStringSubmatch(s, -1) {
		list = append(list, validator.Tag{Weak: m[1] != "", Text: m[2]})
	}
	return list, false, nil
}

// referenceValue joins the values of the fields whose names are the name in
// any case. (The letters that Unicode has beside those of ASCII are longer.)
func referenceValue(f field.Fields, name string) (string, bool) {
	value, found := "", false
	for _, x := range f {
		if !strings.EqualFold(x.Name, name) || len(x.Name) != len(name) {
			continue
		}
		if found {
			value += ", "
		}
		value += x.Value
		found = true
	}
	return value, found
}

func referenceDate(s string) (int, bool) {
	date, err := time.Parse(layout, s)
	if err != nil || date.Year() < 1970 || date.Format(layout) != s {
		return 0, false
	}
	return int(date.Unix()), true
}

// referenceTrue reports whether the value is *, or has the resource's tag.
func referenceTrue(value string, strong bool, s validator.State) bool {
	list, all, err := referenceReadTags(value)
	if err == nil && all {
		return s.Exists
	}
	for _, tag := range list {
		if s.Exists && s.HasTag && tag.Text == s.Tag.Text && !(strong && (tag.Weak || s.Tag.Weak)) {
			return true
		}
	}
	return false
}

func referenceEvaluate(method string, f field.Fields, s validator.State) int {
	match, hasMatch := referenceValue(f, "if-match")
	none, hasNone := referenceValue(f, "if-none-match")
	value, _ := referenceValue(f, "if-unmodified-since")
	before, isBefore := referenceDate(value)
	value, _ = referenceValue(f, "if-modified-since")
	after, isAfter := referenceDate(value)
	dated := s.Exists && s.HasModified
	reads := method == "GET" || method == "HEAD"

	matchFails := hasMatch && !referenceTrue(match, true, s)
	beforeFails := !hasMatch && isBefore && dated && s.Modified > before
	noneFails := hasNone && referenceTrue(none, false, s)
	afterFails := !hasNone && isAfter && dated && s.Modified <= after && reads
	switch {
	case matchFails || beforeFails || noneFails && !reads:
		return 3
	case noneFails || afterFails:
		return 2
	}
	return 1
}

func referenceUseRange(method string, f field.Fields, s validator.State) bool {
	value, found := referenceValue(f, "if-range")
	date, isDate := referenceDate(value)
	tag, err := referenceReadTag(value)
	sameTag := err == nil && s.Exists && s.HasTag && tag == s.Tag && !tag.Weak
	sameDate := isDate && s.Exists && s.HasModified && date == s.Modified
	return method == "GET" && (!found || sameTag || sameDate)
}
