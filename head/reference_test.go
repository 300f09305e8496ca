package head_test

import (
	"fmt"
	"regexp"
	"strings"

	"quayside/address"
	"quayside/api"
	"quayside/field"
	"quayside/head"
)

// The functions of this file say the same as chapter 5 in another way, by
// regular expressions and byte for byte, so that the tests can compare the
// package with them. They need not be fast.

var (
	endPattern     = regexp.MustCompile(`(?s)\A(?:\r\n|.*?\r\n\r\n)`)
	linePattern    = regexp.MustCompile(`(?s)\A(.*?)\r\n`)
	methodPattern  = regexp.MustCompile(`\A[A-Z]{1,16}\z`)
	pathPattern    = regexp.MustCompile(`\A/[!-~]*\z`)
	versionPattern = regexp.MustCompile(`\AHTTP/1\.1(?: |\z)`)
	statusPattern  = regexp.MustCompile(`\AHTTP/1\.1 ([1-5][0-9][0-9])(?: [^\x00-\x08\x0a-\x1f\x7f]*)?\z`)
	foldPattern    = regexp.MustCompile(`\A[ \t]`)
	spacePattern   = regexp.MustCompile(`\A[^:]*[ \t][^:]*:`)
)

// reasons is the list of chapter 5.
const reasons = "100 Continue, 101 Switching Protocols, 200 OK, 201 Created, 202 Accepted, 203 Non-Authoritative Information, 204 No Content, 206 Partial Content, " +
	"300 Multiple Choices, 301 Moved Permanently, 302 Found, 303 See Other, 304 Not Modified, 307 Temporary Redirect, 308 Permanent Redirect, " +
	"400 Bad Request, 401 Unauthorized, 403 Forbidden, 404 Not Found, 405 Method Not Allowed, 408 Request Timeout, 410 Gone, 411 Length Required, 412 Precondition Failed, " +
	"413 Content Too Large, 414 URI Too Long, 416 Range Not Satisfiable, 429 Too Many Requests, 431 Request Header Fields Too Large, " +
	"500 Internal Server Error, 501 Not Implemented, 502 Bad Gateway, 503 Service Unavailable, 504 Gateway Timeout"

func referenceReason(status int) string {
	for _, text := range strings.Split(reasons, ", ") {
		if phrase, found := strings.CutPrefix(text, fmt.Sprintf("%d ", status)); found {
			return phrase
		}
	}
	return ""
}

// referenceLines returns the lines of the head of b, without the empty one,
// and the end of the head.
func referenceLines(b []byte) ([]string, int, error) {
	m := endPattern.FindIndex(b)
	switch {
	case m == nil && len(b) <= 8191:
		return nil, 0, api.ErrEnd
	case m == nil || m[1] >= 8193:
		return nil, 0, api.ErrLarge
	}
	text := string(b[:m[1]])
	var lines []string
	for text != "" {
		line := linePattern.FindStringSubmatch(text)
		lines = append(lines, line[1])
		text = text[len(line[0]):]
	}
	// Beside the header lines there are the start line and the empty line.
	if len(lines) > 66 {
		return nil, 0, api.ErrLarge
	}
	if len(lines) == 1 || hasBadLineEnd(b[:m[1]]) {
		return nil, 0, api.ErrLine
	}
	return lines[:len(lines)-1], m[1], nil
}

func hasBadLineEnd(b []byte) bool {
	for i, c := range b {
		if c == 13 && b[i+1] != 10 || c == 10 && (i == 0 || b[i-1] != 13) || c == 0 {
			return true
		}
	}
	return false
}

func referenceReadRequest(b []byte) (head.Request, int, error) {
	lines, n, err := referenceLines(b)
	if err != nil {
		return head.Request{}, 0, err
	}
	parts := append(strings.SplitN(lines[0], " ", 3), "", "")
	r := head.Request{Method: parts[0], Target: parts[1]}
	if err = referenceStart(r); err == nil && parts[2] != "HTTP/1.1" {
		err = api.ErrVersion
	}
	if err == nil {
		r.Fields, err = referenceFields(lines[1:])
	}
	if err == nil {
		err = referenceHost(r.Fields)
	}
	if err != nil {
		return head.Request{}, 0, err
	}
	return r, n, nil
}

func referenceStart(r head.Request) error {
	switch {
	case !methodPattern.MatchString(r.Method):
		return api.ErrMethod
	case r.Method == "OPTIONS" && r.Target == "*":
		return nil
	case len(r.Target) >= 2049 || !pathPattern.MatchString(r.Target):
		return api.ErrTarget
	}
	return nil
}

func referenceFields(lines []string) (field.Fields, error) {
	var f field.Fields
	for _, line := range lines {
		colon := strings.Index(line, ":")
		switch {
		case foldPattern.MatchString(line):
			return nil, api.ErrFold
		case colon <= 0:
			return nil, api.ErrField
		case spacePattern.MatchString(line):
			return nil, api.ErrSpace
		}
		name, err := field.Name(line[:colon])
		value, err2 := field.Value(line[colon+1:])
		if err != nil || err2 != nil {
			return nil, api.ErrField
		}
		f = append(f, field.Field{Name: name, Value: value})
	}
	return f, nil
}

// referenceHost changes the host in f, whose names are in lower case.
func referenceHost(f field.Fields) error {
	at := -1
	for i, x := range f {
		if x.Name != "host" {
			continue
		}
		if at >= 0 {
			return api.ErrHost
		}
		at = i
	}
	if at < 0 {
		return api.ErrHost
	}
	host, err := address.Host(f[at].Value)
	if err != nil {
		return api.ErrHost
	}
	f[at].Value = host
	return nil
}

func referenceReadResponse(b []byte) (head.Response, int, error) {
	lines, n, err := referenceLines(b)
	if err != nil {
		return head.Response{}, 0, err
	}
	if !versionPattern.MatchString(lines[0]) {
		return head.Response{}, 0, api.ErrVersion
	}
	m := statusPattern.FindStringSubmatch(lines[0])
	if m == nil {
		return head.Response{}, 0, api.ErrForm
	}
	f, err := referenceFields(lines[1:])
	if err != nil {
		return head.Response{}, 0, err
	}
	r := head.Response{Fields: f}
	fmt.Sscan(m[1], &r.Status)
	return r, n, nil
}

// referenceText returns a start line and fields as they are, and whether they
// are too large for a head.
func referenceText(start string, f field.Fields) (string, bool) {
	text := start + "\r\n"
	for _, x := range f {
		text += strings.Join([]string{x.Name, ": ", x.Value, "\r\n"}, "")
	}
	text += "\r\n"
	return text, len(f) >= 65 || len(text) >= 8193
}

// referenceCanonical returns f with names in lower case.
func referenceCanonical(f field.Fields) (field.Fields, error) {
	var list field.Fields
	for _, x := range f {
		name, err := field.Name(x.Name)
		if value, err2 := field.Value(x.Value); err != nil || err2 != nil || value != x.Value {
			return nil, api.ErrField
		}
		list = append(list, field.Field{Name: name, Value: x.Value})
	}
	return list, nil
}

func referenceWriteRequest(r head.Request) (string, error) {
	start := r.Method + " " + r.Target + " HTTP/1.1"
	if _, large := referenceText(start, r.Fields); large {
		return "", api.ErrLarge
	}
	if err := referenceStart(r); err != nil {
		return "", err
	}
	f, err := referenceCanonical(r.Fields)
	if err == nil {
		err = referenceHost(f)
	}
	if err != nil {
		return "", err
	}
	text, _ := referenceText(start, f)
	return text, nil
}

func referenceWriteResponse(r head.Response) (string, error) {
	status := "999"
	bad := r.Status <= 99 || r.Status >= 600
	if !bad {
		status = fmt.Sprint(r.Status)
	}
	start := "HTTP/1.1 " + status + " " + referenceReason(r.Status)
	if _, large := referenceText(start, r.Fields); large {
		return "", api.ErrLarge
	}
	if bad {
		return "", api.ErrForm
	}
	f, err := referenceCanonical(r.Fields)
	if err != nil {
		return "", err
	}
	text, _ := referenceText(start, f)
	return text, nil
}
