package ranges_test

import (
	"fmt"
	"regexp"
	"slices"
	"strings"

	"quayside/api"
	"quayside/ranges"
)

// The functions of this file say the same as chapter 9 in another way, by
// regular expressions and by asking of each offset whether it belongs to a
// range, so that the tests can compare the package with them. They need not be
// fast.

const (
	number  = `[0-9]{1,15}`
	plain   = `(0|[1-9][0-9]{0,14})`
	element = `(?:` + number + `-(?:` + number + `)?|-` + number + `)`
)

var (
	fieldPattern   = regexp.MustCompile(`\Abytes=[ \t,]*` + element + `(?:[ \t]*,[ \t,]*` + element + `)*[ \t,]*\z`)
	elementPattern = regexp.MustCompile(`([0-9]*)-([0-9]*)`)
	numberPattern  = regexp.MustCompile(`\A` + number + `\z`)
	contentPattern = regexp.MustCompile(`\Abytes ` + plain + `-` + plain + `/` + plain + `\z`)

	boundaryPattern = regexp.MustCompile(`\A[0-9A-Za-z]{1,40}\z`)
	unfitKind       = regexp.MustCompile(`[\x00-\x08\x0a-\x1f\x7f]|\A[ \t]|[ \t]\z`)
	headPattern     = regexp.MustCompile(`\A[^\n]*\nContent-Type: ([^\n]*)\r\nContent-Range: ([^\n]*)\r\n\r\n`)
)

func value(digits string) int {
	n := 0
	fmt.Sscanf(digits, "%d", &n)
	return n
}

// fits reports whether n has at most 15 digits, and no sign.
func fits(n int) bool {
	return numberPattern.MatchString(fmt.Sprint(n))
}

func referenceParse(s string, length int) ([]ranges.Range, error) {
	if !fieldPattern.MatchString(s) {
		return nil, api.ErrForm
	}
	elements := elementPattern.FindAllStringSubmatch(s, -1)
	var list []ranges.Range
	for _, m := range elements {
		if m[1] != "" && m[2] != "" && value(m[1]) > value(m[2]) {
			return nil, api.ErrForm
		}
		if r, ok := referenceElement(m[1], m[2], length); ok {
			list = append(list, r)
		}
	}
	switch {
	case len(elements) >= 9:
		return nil, api.ErrLarge
	case len(list) == 0:
		return nil, api.ErrRange
	}
	return list, nil
}

// referenceElement asks of every offset that may be the first or the last one
// whether the element stands for it.
func referenceElement(first, last string, length int) (ranges.Range, bool) {
	a, b := value(first), value(last)
	has := func(i int) bool {
		switch {
		case i < 0 || i >= length:
			return false
		case first == "":
			return i >= length-b
		case last == "":
			return i >= a
		}
		return a <= i && i <= b
	}
	var ends []int
	for _, i := range []int{0, a, b, max(length, 0) - b, length - 1} {
		if has(i) {
			ends = append(ends, i)
		}
	}
	if len(ends) == 0 {
		return ranges.Range{}, false
	}
	return ranges.Range{From: slices.Min(ends), To: slices.Max(ends) + 1}, true
}

func referenceProper(r ranges.Range) bool {
	return fits(r.From) && fits(r.To) && r.From < r.To
}

func referenceFormat(list []ranges.Range) (string, error) {
	s := "bytes="
	for _, r := range list {
		if !referenceProper(r) {
			return "", api.ErrForm
		}
		s += fmt.Sprintf("%d-%d,", r.From, r.To-1)
	}
	if len(list) == 0 {
		return "", api.ErrForm
	}
	return s[:len(s)-1], nil
}

func referenceContentRange(r ranges.Range, length int) (string, error) {
	s := fmt.Sprintf("bytes %d-%d/%d", r.From, r.To-1, length)
	if !referenceProper(r) || r.To > length || !contentPattern.MatchString(s) {
		return "", api.ErrForm
	}
	return s, nil
}

func referenceReadContentRange(s string) (ranges.Range, int, error) {
	m := contentPattern.FindStringSubmatch(s)
	if m == nil || value(m[1]) > value(m[2]) || value(m[2]) >= value(m[3]) {
		return ranges.Range{}, 0, api.ErrForm
	}
	return ranges.Range{From: value(m[1]), To: value(m[2]) + 1}, value(m[3]), nil
}

// referenceEnds returns the ends of the ranges, in order. Between two of them
// that follow upon each other, each range has all offsets or none.
func referenceEnds(list []ranges.Range) []int {
	var ends []int
	for _, r := range list {
		ends = append(ends, r.From, r.To)
	}
	slices.Sort(ends)
	return slices.Compact(ends)
}

func referenceHas(list []ranges.Range, i int) bool {
	return slices.ContainsFunc(list, func(r ranges.Range) bool { return r.From <= i && i < r.To })
}

func referenceMerge(list []ranges.Range) []ranges.Range {
	var merged []ranges.Range
	open := false
	for _, end := range referenceEnds(list) {
		has := referenceHas(list, end)
		switch {
		case has && !open:
			merged = append(merged, ranges.Range{From: end})
		case open && !has:
			merged[len(merged)-1].To = end
		}
		open = has
	}
	return merged
}

func referenceCover(list []ranges.Range, r ranges.Range) bool {
	for _, end := range referenceEnds(append([]ranges.Range{r}, list...)) {
		if r.From <= end && end < r.To && !referenceHas(list, end) {
			return false
		}
	}
	return true
}

// referencePieces takes the pieces off a body one after the other.
func referencePieces(length int) []ranges.Range {
	length = min(length, 65536)
	var list []ranges.Range
	for from := 0; from < length; from += 256 {
		list = append(list, ranges.Range{From: from, To: min(from+256, length)})
	}
	return list
}

func referencePiecesOf(r ranges.Range, length int) []int {
	var list []int
	for i, p := range referencePieces(length) {
		if max(p.From, r.From) < min(p.To, r.To) {
			list = append(list, i)
		}
	}
	return list
}

func referencePiece(i, length int) (ranges.Range, error) {
	list := referencePieces(length)
	if i < 0 || i >= len(list) {
		return ranges.Range{}, api.ErrRange
	}
	return list[i], nil
}

func referenceKind(kind string) bool {
	return !unfitKind.MatchString(kind) && len(kind) < 2049
}

// write returns the parts with the boundary as Multipart writes them.
func write(boundary, kind string, list []ranges.Part, length int) string {
	s := ""
	for _, p := range list {
		s += fmt.Sprintf("--%s\r\nContent-Type: %s\r\nContent-Range: bytes %d-%d/%d\r\n\r\n%s\r\n", boundary, kind, p.Range.From, p.Range.To-1, length, p.Data)
	}
	return s + fmt.Sprintf("--%s--\r\n", boundary)
}

func referenceMultipart(boundary, kind string, list []ranges.Range, body string) (string, error) {
	if !boundaryPattern.MatchString(boundary) || strings.Contains(body, boundary) || !referenceKind(kind) {
		return "", api.ErrForm
	}
	var parts []ranges.Part
	for _, r := range list {
		if r.From < 0 || r.From >= r.To || r.To > len(body) {
			return "", api.ErrRange
		}
		parts = append(parts, ranges.Part{Range: r, Data: []byte(body[r.From:r.To])})
	}
	if len(parts) == 0 {
		return "", api.ErrRange
	}
	return write(boundary, kind, parts, len(body)), nil
}

// referenceReadMultipart takes out of s whatever may be a part, and looks
// whether s is what is written of these parts.
func referenceReadMultipart(boundary, s string) ([]ranges.Part, int, error) {
	var list []ranges.Part
	kind, length := "", 0
	for rest := s; ; {
		m := headPattern.FindStringSubmatch(rest)
		if m == nil {
			break
		}
		r, n, err := referenceReadContentRange(m[2])
		rest = rest[len(m[0]):]
		if err != nil || r.To-r.From+2 > len(rest) {
			break
		}
		data := rest[:r.To-r.From]
		if boundary == "" || strings.Contains(data, boundary) {
			break
		}
		list = append(list, ranges.Part{Range: r, Data: []byte(data)})
		rest = rest[len(data)+2:]
		kind, length = m[1], n
	}
	if len(list) == 0 || !boundaryPattern.MatchString(boundary) || !referenceKind(kind) || write(boundary, kind, list, length) != s {
		return nil, 0, api.ErrForm
	}
	return list, length, nil
}
