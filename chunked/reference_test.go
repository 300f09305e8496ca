package chunked_test

import (
	"fmt"
	"regexp"
	"slices"
	"strconv"
	"strings"

	"quayside/api"
	"quayside/field"
)

// The functions of this file say the same as chapter 7 in another way, by
// regular expressions for whole lines and by looking at everything that has
// arrived, so that the tests can compare the package with them. They need not
// be fast.

const (
	number    = `[0-9A-Fa-f]{1,8}`
	extension = `(?:;[^\x00-\x08\x0a-\x1f\x7f]*)?`
	forbidden = `authorization|cache-control|content-length|host|set-cookie|trailer|transfer-encoding`
)

var (
	numberPattern    = regexp.MustCompile(`\A` + number)
	sizePattern      = regexp.MustCompile(`\A(` + number + `)` + extension + `\r\n`)
	sizeStart        = longest(`\A(?:` + number + extension + `(?:\r\n?)?)?`)
	faultPattern     = regexp.MustCompile(`(?s)(?:\x00|\r[^\n]|\A\n|[^\r]\n)\z`)
	trailerPattern   = regexp.MustCompile(`(?s)\A([^:]+):(.*)\z`)
	forbiddenPattern = regexp.MustCompile(`\A(?i:` + forbidden + `)\z`)
)

func longest(text string) *regexp.Regexp {
	p := regexp.MustCompile(text)
	p.Longest()
	return p
}

// outcome is what comes of all bytes that are written to a decoder.
type outcome struct {
	body     string
	taken    int
	err      error
	done     bool
	trailers field.Fields
}

func (o outcome) String() string {
	return fmt.Sprintf("%.100q, %d taken, %v, %v, %.200q", o.body, o.taken, o.err, o.done, o.trailers)
}

func same(a, b outcome) bool {
	return a.body == b.body && a.taken == b.taken && a.err == b.err && a.done == b.done && slices.Equal(a.trailers, b.trailers)
}

func referenceDecode(s string) outcome {
	var o outcome
	for o.err == nil && o.taken < len(s) {
		rest := s[o.taken:]
		n, err := referenceSize(rest, 65536-len(o.body))
		o.taken += n
		o.err = err
		m := sizePattern.FindStringSubmatch(rest[:n])
		if m == nil {
			return o
		}
		size, _ := strconv.ParseInt(m[1], 16, 64)
		if size == 0 {
			return referenceTrailers(o, rest[n:])
		}
		data := rest[n:min(n+int(size), len(rest))]
		o.body += data
		o.taken += len(data)
		if len(data) == int(size) {
			n, o.err = referenceEnd(rest[n+len(data):])
			o.taken += n
		}
	}
	return o
}

// referenceSize returns how many bytes of s belong to the size line at its
// beginning, and why it is faulty after them.
func referenceSize(s string, room int) (int, error) {
	digits := numberPattern.FindString(s)
	for i := range len(digits) {
		if size, _ := strconv.ParseInt(digits[:i+1], 16, 64); int(size) > room {
			return i, api.ErrLarge
		}
	}
	start := sizeStart.FindString(s)
	if len(strings.TrimRight(start, "\r\n")) > 256 {
		return 256, api.ErrChunk
	}
	if len(start) < len(s) && !strings.HasSuffix(start, "\n") {
		return len(start), api.ErrChunk
	}
	return len(start), nil
}

// referenceEnd is referenceSize for the end of a chunk.
func referenceEnd(s string) (int, error) {
	end := "\r\n"[:min(2, len(s))]
	for i := range len(end) {
		if s[i] != end[i] {
			return i, api.ErrChunk
		}
	}
	return len(end), nil
}

// referenceTrailers returns what comes of the bytes before the trailers, of
// which o came, and the bytes s.
func referenceTrailers(o outcome, s string) outcome {
	var f field.Fields
	for i := range len(s) {
		if i >= 8192 || faultPattern.MatchString(s[max(0, i-1):i+1]) {
			o.err = api.ErrTrailer
			return o
		}
		if s[i] == '\n' {
			lines := strings.Split(s[:i-1], "\r\n")
			line := lines[len(lines)-1]
			if line == "" {
				o.taken++
				o.done, o.trailers = true, f
				return o
			}
			x, ok := referenceTrailer(line)
			if !ok || len(lines) >= 65 {
				o.err = api.ErrTrailer
				return o
			}
			f = append(f, x)
		}
		o.taken++
	}
	return o
}

func referenceTrailer(line string) (field.Field, bool) {
	m := trailerPattern.FindStringSubmatch(line)
	if m == nil || forbiddenPattern.MatchString(m[1]) {
		return field.Field{}, false
	}
	name, err := field.Name(m[1])
	value, err2 := field.Value(m[2])
	return field.Field{Name: name, Value: value}, err == nil && err2 == nil
}

func referenceLast(trailers field.Fields) (string, error) {
	text := ""
	bad := len(trailers) >= 65
	for _, x := range trailers {
		name, err := field.Name(x.Name)
		value, err2 := field.Value(x.Value)
		bad = bad || err != nil || err2 != nil || value != x.Value || forbiddenPattern.MatchString(name)
		text += fmt.Sprintf("%s: %s\r\n", name, value)
	}
	if bad || len(text) >= 8191 {
		return "", api.ErrTrailer
	}
	return "0\r\n" + text + "\r\n", nil
}

func referenceEncode(parts []string, trailers field.Fields) (string, error) {
	if len(strings.Join(parts, "")) >= 65537 {
		return "", api.ErrLarge
	}
	text := ""
	for _, part := range parts {
		if part != "" {
			text += fmt.Sprintf("%x\r\n%s\r\n", len(part), part)
		}
	}
	last, err := referenceLast(trailers)
	if err != nil {
		return "", err
	}
	return text + last, nil
}
