package framing_test

import (
	"fmt"
	"regexp"
	"strings"

	"quayside/api"
	"quayside/field"
	"quayside/framing"
)

// The functions of this file say the same as chapter 6 in another way, by
// regular expressions for whole values, so that the tests can compare the
// package with them. They need not be fast.

const (
	letters = `[Cc][Hh][Uu][Nn][Kk][Ee][Dd]`
	number  = `[0-9]{1,15}`
)

var (
	lengthField = regexp.MustCompile(`\A[Cc][Oo][Nn][Tt][Ee][Nn][Tt]-[Ll][Ee][Nn][Gg][Tt][Hh]\z`)
	codingField = regexp.MustCompile(`\A[Tt][Rr][Aa][Nn][Ss][Ff][Ee][Rr]-[Ee][Nn][Cc][Oo][Dd][Ii][Nn][Gg]\z`)

	emptyList   = regexp.MustCompile(`\A[ \t,]*\z`)
	chunkedList = regexp.MustCompile(`\A[ \t,]*` + letters + `[ \t,]*\z`)
	numberList  = regexp.MustCompile(`\A[ \t,]*(?:` + number + `[ \t]*(?:,[ \t,]*|\z))*\z`)
	digits      = regexp.MustCompile(`[0-9]+`)

	// These are for all values, joined by commas.
	carelessNumber  = regexp.MustCompile(`(?:\A|,)[ \t]*(` + number + `)[ \t]*(?:,|\z)`)
	carelessChunked = regexp.MustCompile(`(?:\A|,)[ \t]*` + letters + `[ \t]*(?:[,;]|\z)`)
)

func valuesOf(f field.Fields, name *regexp.Regexp) []string {
	var list []string
	for _, x := range f {
		if name.MatchString(x.Name) {
			list = append(list, x.Value)
		}
	}
	return list
}

// referenceFrame returns the frame that the fields tell; its Kind is 0 if they
// tell none.
func referenceFrame(f field.Fields) (framing.Frame, error) {
	lengths, codings := valuesOf(f, lengthField), valuesOf(f, codingField)
	if lengths != nil && codings != nil {
		return framing.Frame{}, api.ErrBoth
	}
	if codings != nil {
		return referenceCoding(codings)
	}
	if lengths != nil {
		return referenceLength(lengths)
	}
	return framing.Frame{}, nil
}

func referenceCoding(values []string) (framing.Frame, error) {
	n := 0
	for _, value := range values {
		switch {
		case chunkedList.MatchString(value):
			n++
		case !emptyList.MatchString(value):
			return framing.Frame{}, api.ErrCoding
		}
	}
	if n != 1 {
		return framing.Frame{}, api.ErrCoding
	}
	return framing.Frame{Kind: 3}, nil
}

func referenceLength(values []string) (framing.Frame, error) {
	found := map[string]bool{}
	text := ""
	for _, value := range values {
		if !numberList.MatchString(value) {
			return framing.Frame{}, api.ErrLength
		}
		for _, text = range digits.FindAllString(value, -1) {
			found[text] = true
		}
	}
	if len(found) != 1 {
		return framing.Frame{}, api.ErrLength
	}
	n := 0
	for text = range found {
		fmt.Sscanf(text, "%d", &n)
	}
	if n >= 65537 {
		return framing.Frame{}, api.ErrLarge
	}
	return framing.Frame{Kind: 2, Length: n}, nil
}

func referenceOfRequest(f field.Fields) (framing.Frame, error) {
	frame, err := referenceFrame(f)
	if err == nil && frame.Kind == 0 {
		frame.Kind = 1
	}
	return frame, err
}

func referenceOfResponse(method string, status int, f field.Fields) (framing.Frame, error) {
	frame, err := referenceFrame(f)
	switch {
	case err != nil:
		return framing.Frame{}, err
	case method == "HEAD" || len(fmt.Sprint(status)) == 3 && fmt.Sprint(status)[0] == '1' || status == 204 || status == 304:
		return framing.Frame{Kind: 1}, nil
	case frame.Kind == 0:
		return framing.Frame{Kind: 4}, nil
	}
	return frame, nil
}

// referenceLenient returns both lenient readings: by length, and by coding.
func referenceLenient(f field.Fields) (byLength, byCoding framing.Frame) {
	byLength.Kind, byCoding.Kind = 1, 1
	// Without any values nothing stands between commas; the empty text is no
	// part that matters.
	if carelessChunked.MatchString(strings.Join(valuesOf(f, codingField), ",")) {
		byLength.Kind, byCoding.Kind = 3, 3
	}
	m := carelessNumber.FindStringSubmatch(strings.Join(valuesOf(f, lengthField), ","))
	if m == nil {
		return byLength, byCoding
	}
	n := 0
	fmt.Sscanf(m[1], "%d", &n)
	byLength = framing.Frame{Kind: 2, Length: n}
	if byCoding.Kind == 1 {
		byCoding = byLength
	}
	return byLength, byCoding
}

// words is the list of chapter 6, with the numbers of the errors in DOC.md.
const words = `2 "bad status", 5 "too large", 6 "unexpected response", 21 "unexpected end", 22 "bad line end", ` +
	`23 "folded line", 24 "space before colon", 25 "bad field", 26 "bad method", 27 "bad target", 28 "bad version", ` +
	`29 "bad host", 30 "bad length", 31 "both lengths", 32 "bad coding", 33 "bad chunk", 34 "bad trailer"`

func referenceName(number int) string {
	m := regexp.MustCompile(fmt.Sprintf(`(?:\A|, )%d "([^"]*)"`, number)).FindStringSubmatch(words)
	if m == nil {
		return ""
	}
	return m[1]
}
