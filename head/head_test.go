package head_test

import (
	"bytes"
	"fmt"
	"math"
	"math/rand"
	"slices"
	"strings"
	"testing"

	"quayside/api"
	"quayside/field"
	"quayside/head"
	"quayside/samples"
)

// of returns the fields with the names and values given in turn, and some one
// of the texts.
var (
	of   = samples.Fields
	some = samples.Some
)

// text returns the head of the lines.
func text(lines ...string) string {
	return strings.Join(lines, "\r\n") + "\r\n\r\n"
}

func repeat(s string, n int) string {
	return strings.Repeat(s, n)
}

func sameRequest(a, b head.Request) bool {
	return a.Method == b.Method && a.Target == b.Target && slices.Equal(a.Fields, b.Fields)
}

func sameResponse(a, b head.Response) bool {
	return a.Status == b.Status && slices.Equal(a.Fields, b.Fields)
}

// followers are what may follow a head.
var followers = []string{"", "\n", "\r", "\r\n", "\r\n\r\n", "x", "\x00", "GET / HTTP/1.1\r\nhost: a\r\n\r\n", repeat("a", 9000)}

// compareRead checks both functions that read against reference_test.go, and
// P5.2 for what they accept.
func compareRead(t *testing.T, s string) {
	t.Helper()
	b := []byte(s)
	r, n, err := head.ReadRequest(b)
	if want, m, e := referenceReadRequest(b); !sameRequest(r, want) || n != m || err != e {
		t.Errorf("ReadRequest(%.200q) = %.200q, %d, %v; want %.200q, %d, %v", s, r, n, err, want, m, e)
	}
	if err == nil {
		keepRequest(t, r, s[:n])
	}
	p, n, err := head.ReadResponse(b)
	if want, m, e := referenceReadResponse(b); !sameResponse(p, want) || n != m || err != e {
		t.Errorf("ReadResponse(%.200q) = %.200v, %d, %v; want %.200v, %d, %v", s, p, n, err, want, m, e)
	}
	if err == nil {
		keepResponse(t, p, s[:n])
	}
	if string(b) != s {
		t.Errorf("the argument %.200q was changed", s)
	}
}

// keepRequest is P5.2 for the request r, which was read from s.
func keepRequest(t *testing.T, r head.Request, s string) {
	t.Helper()
	written, err := head.WriteRequest(r)
	if _, large := referenceText(r.Method+" "+r.Target+" HTTP/1.1", r.Fields); large {
		// Writing adds a blank to each field, which can make a head too large.
		if err != api.ErrLarge || len(s)+64 <= 8192 {
			t.Errorf("WriteRequest of what was read from %.200q: %v", s, err)
		}
		return
	}
	if err != nil {
		t.Errorf("WriteRequest of what was read from %.200q: %v", s, err)
		return
	}
	readAgain(t, r, written)
}

// readAgain is P5.2 for the request r, which was written.
func readAgain(t *testing.T, r head.Request, written []byte) {
	t.Helper()
	for _, follows := range followers {
		again, n, err := head.ReadRequest(append(slices.Clone(written), follows...))
		if !sameRequest(again, r) || n != len(written) || err != nil {
			t.Errorf("%.200q, followed by %.40q, is read as %.200q, %d, %v; want %.200q", written, follows, again, n, err, r)
		}
	}
}

// keepResponse is P5.2 for the response r, which was read from s.
func keepResponse(t *testing.T, r head.Response, s string) {
	t.Helper()
	written, err := head.WriteResponse(r)
	if _, large := referenceText(fmt.Sprintf("HTTP/1.1 %d %s", r.Status, referenceReason(r.Status)), r.Fields); large {
		// Writing also adds a blank and the reason, which has 31 bytes at most.
		if err != api.ErrLarge || len(s)+64+32 <= 8192 {
			t.Errorf("WriteResponse of what was read from %.200q: %v", s, err)
		}
		return
	}
	if err != nil {
		t.Errorf("WriteResponse of what was read from %.200q: %v", s, err)
		return
	}
	readResponseAgain(t, r, written)
}

// readResponseAgain is P5.2 for the response r, which was written.
func readResponseAgain(t *testing.T, r head.Response, written []byte) {
	t.Helper()
	for _, follows := range followers {
		again, n, err := head.ReadResponse(append(slices.Clone(written), follows...))
		if !sameResponse(again, r) || n != len(written) || err != nil {
			t.Errorf("%.200q, followed by %.40q, is read as %.200v, %d, %v; want %.200v", written, follows, again, n, err, r)
		}
	}
}

// lowered returns f with names in lower case, and with the host in lower case
// if it is that of a request.
func lowered(f field.Fields, isRequest bool) field.Fields {
	var list field.Fields
	for _, x := range f {
		x.Name = strings.ToLower(x.Name)
		if isRequest && x.Name == "host" {
			x.Value = strings.ToLower(x.Value)
		}
		list = append(list, x)
	}
	return list
}

// compareWrite checks both functions that write against reference_test.go,
// and P5.2 for what they accept.
func compareWrite(t *testing.T, r head.Request, status int) {
	t.Helper()
	kept := slices.Clone(r.Fields)
	b, err := head.WriteRequest(r)
	if want, e := referenceWriteRequest(r); string(b) != want || err != e {
		t.Errorf("WriteRequest(%.200q) = %.200q, %v; want %.200q, %v", r, b, err, want, e)
	}
	if err == nil {
		readAgain(t, head.Request{Method: r.Method, Target: r.Target, Fields: lowered(kept, true)}, b)
	}
	p := head.Response{Status: status, Fields: r.Fields}
	b, err = head.WriteResponse(p)
	if want, e := referenceWriteResponse(p); string(b) != want || err != e {
		t.Errorf("WriteResponse(%.200v) = %.200q, %v; want %.200q, %v", p, b, err, want, e)
	}
	if err == nil {
		readResponseAgain(t, head.Response{Status: status, Fields: lowered(kept, false)}, b)
	}
	if !slices.Equal(r.Fields, kept) {
		t.Errorf("the fields %.200q were changed", kept)
	}
}

func TestReadRequest(t *testing.T) { // P5.1
	for _, c := range []struct {
		in   string
		want head.Request
	}{
		{"GET /a HTTP/1.1\r\nHOST: A.b \r\n\r\n", head.Request{"GET", "/a", of("host", "a.b")}},
		{text("GET / HTTP/1.1", "host:a"), head.Request{"GET", "/", of("host", "a")}},
		{text("A /%zz?\"<>\\^`{|}~#[] HTTP/1.1", "Host: a"), head.Request{"A", "/%zz?\"<>\\^`{|}~#[]", of("host", "a")}},
		{text("OPTIONS * HTTP/1.1", "host: a"), head.Request{"OPTIONS", "*", of("host", "a")}},
		{text("OPTIONS /* HTTP/1.1", "host: a"), head.Request{"OPTIONS", "/*", of("host", "a")}},
		{text("PROPPATCHXYZABCD //../. HTTP/1.1", "hOsT:\t A-1.B\t "), head.Request{"PROPPATCHXYZABCD", "//../.", of("host", "a-1.b")}},
		{text("GET / HTTP/1.1", "B: 1", "Host: a", "a: X", "b:2", "A:"), head.Request{"GET", "/", of("b", "1", "host", "a", "a", "X", "b", "2", "a", "")}},
		{text("GET / HTTP/1.1", "Host: a", "a: b : c\t\td ", "!#$%&'*+-.^_`|~09AZaz:: :"), head.Request{"GET", "/", of("host", "a", "a", "b : c\t\td", "!#$%&'*+-.^_`|~09azaz", ": :")}},
		{text("GET / HTTP/1.1", "a: \x80\xff\u00e9", "host: a", "hosts: b"), head.Request{"GET", "/", of("a", "\x80\xff\u00e9", "host", "a", "hosts", "b")}},
		// What makes a message ambiguous beyond its head is left to chapter 6.
		{text("GET / HTTP/1.1", "host: a", "content-length: x", "transfer-encoding: y", "content-length: z"), head.Request{"GET", "/", of("host", "a", "content-length", "x", "transfer-encoding", "y", "content-length", "z")}},
	} {
		for _, follows := range followers {
			r, n, err := head.ReadRequest([]byte(c.in + follows))
			if !sameRequest(r, c.want) || n != len(c.in) || err != nil {
				t.Errorf("ReadRequest(%q and %.40q) = %q, %d, %v; want %q", c.in, follows, r, n, err, c.want)
			}
		}
		compareRead(t, c.in)
	}
}

func TestReadRequestRefuses(t *testing.T) { // P5.1
	const get = "GET / HTTP/1.1"
	for _, c := range []struct {
		in   string
		want error
	}{
		{"", api.ErrEnd},
		{"\r", api.ErrEnd},
		{"\n\n", api.ErrEnd},
		{"get\x00\r\r\n\n", api.ErrEnd},
		{"GET / HTTP/1.1\nhost: a\n\n", api.ErrEnd},
		{"GET / HTTP/1.1\r\nhost: a\r\n", api.ErrEnd},
		{"GET / HTTP/1.1\r\nhost: a\r\n\r", api.ErrEnd},
		{"GET / HTTP/1.1\r\nhost: a\r\n\n", api.ErrEnd},
		{"GET / HTTP/1.1\r\nhost: a\r\r\n", api.ErrEnd},
		{"\r\n", api.ErrLine},
		{"\r\n\r\n", api.ErrLine},
		{"\r\n" + text(get, "host: a"), api.ErrLine},
		{"\r\n" + repeat("a", 9000), api.ErrLine},
		{"\r\n" + repeat("a: b\r\n", 70), api.ErrLine},
		{"\n\r\n\r\n", api.ErrLine},
		{"\r\r\n\r\n", api.ErrLine},
		{"\x00\r\n\r\n", api.ErrLine},
		{"\n" + text(get, "host: a"), api.ErrLine},
		{"\r" + text(get, "host: a"), api.ErrLine},
		{text("GET / HTTP/1.1\nhost: a"), api.ErrLine},
		{text("GET / HTTP/1.1\rhost: a"), api.ErrLine},
		{text(get, "host: a\r"), api.ErrLine},
		{text(get+"\r", "host: a"), api.ErrLine},
		{text(get, "\nhost: a"), api.ErrLine},
		{text(get, "\rhost: a"), api.ErrLine},
		{text(get, "host: a", "b: \x00"), api.ErrLine},
		{text(get, "host: a\n"), api.ErrLine},
		{text(get, "host: a", "b\n c: d"), api.ErrLine},
		{text("\x00"), api.ErrLine},
		{text(" / HTTP/1.1", "host: a"), api.ErrMethod},
		{text("/ HTTP/1.1", "host: a"), api.ErrMethod},
		{text(" GET / HTTP/1.1", "host: a"), api.ErrMethod},
		{text("get / HTTP/1.1", "host: a"), api.ErrMethod},
		{text("GEt / HTTP/1.1", "host: a"), api.ErrMethod},
		{text("GET\t/ HTTP/1.1", "host: a"), api.ErrMethod},
		{text("GE-T / HTTP/1.1", "host: a"), api.ErrMethod},
		{text("GET1 / HTTP/1.1", "host: a"), api.ErrMethod},
		{text("G\u00c9T / HTTP/1.1", "host: a"), api.ErrMethod},
		{text("HTTP/1.1 200 OK"), api.ErrMethod},
		{text("PROPPATCHXYZABCDE / HTTP/1.1", "host: a"), api.ErrMethod},
		{text("x"), api.ErrMethod},
		{text("GET"), api.ErrTarget},
		{text("GET "), api.ErrTarget},
		{text("GET  / HTTP/1.1", "host: a"), api.ErrTarget},
		{text("GET  HTTP/1.1", "host: a"), api.ErrTarget},
		{text("GET HTTP/1.1", "host: a"), api.ErrTarget},
		{text("GET x HTTP/1.1", "host: a"), api.ErrTarget},
		{text("GET http://a/ HTTP/1.1", "host: a"), api.ErrTarget},
		{text("GET \t/ HTTP/1.1", "host: a"), api.ErrTarget},
		{text("GET /\t HTTP/1.1", "host: a"), api.ErrTarget},
		{text("GET /\x7f HTTP/1.1", "host: a"), api.ErrTarget},
		{text("GET /\x80 HTTP/1.1", "host: a"), api.ErrTarget},
		{text("GET /\u00e9 HTTP/1.1", "host: a"), api.ErrTarget},
		{text("GET /\x01 HTTP/1.1", "host: a"), api.ErrTarget},
		{text("GET * HTTP/1.1", "host: a"), api.ErrTarget},
		{text("OPTION * HTTP/1.1", "host: a"), api.ErrTarget},
		{text("OPTIONSS * HTTP/1.1", "host: a"), api.ErrTarget},
		{text("OPTIONS ** HTTP/1.1", "host: a"), api.ErrTarget},
		{text("OPTIONS */ HTTP/1.1", "host: a"), api.ErrTarget},
		{text("CONNECT a:80 HTTP/1.1", "host: a"), api.ErrTarget},
		{text("GET /", "host: a"), api.ErrVersion},
		{text("GET / ", "host: a"), api.ErrVersion},
		{text("GET /  HTTP/1.1", "host: a"), api.ErrVersion},
		{text("GET / HTTP/1.1 ", "host: a"), api.ErrVersion},
		{text("GET / HTTP/1.1 x", "host: a"), api.ErrVersion},
		{text("GET / a HTTP/1.1", "host: a"), api.ErrVersion},
		{text("GET / \tHTTP/1.1", "host: a"), api.ErrVersion},
		{text("GET / HTTP/1.0", "host: a"), api.ErrVersion},
		{text("GET / HTTP/1.10", "host: a"), api.ErrVersion},
		{text("GET / HTTP/11", "host: a"), api.ErrVersion},
		{text("GET / HTTP/2", "host: a"), api.ErrVersion},
		{text("GET / http/1.1", "host: a"), api.ErrVersion},
		{text("GET / HTTP/1.1\x7f", "host: a"), api.ErrVersion},
		{text(get, " host: a"), api.ErrFold},
		{text(get, "\thost: a"), api.ErrFold},
		{text(get, "host: a", " "), api.ErrFold},
		{text(get, "host: a", " : b"), api.ErrFold},
		{text(get, "host: a", "\tb"), api.ErrFold},
		{text(get, "host: a", "b"), api.ErrField},
		{text(get, "host: a", "b c"), api.ErrField},
		{text(get, "host: a", "b\t"), api.ErrField},
		{text(get, "host: a", ":"), api.ErrField},
		{text(get, "host: a", ": b"), api.ErrField},
		{text(get, "host: a", ": b: c"), api.ErrField},
		{text(get, "host : a"), api.ErrSpace},
		{text(get, "host: a", "b\t: c"), api.ErrSpace},
		{text(get, "host: a", "b c: d"), api.ErrSpace},
		{text(get, "host: a", "( : d"), api.ErrSpace},
		{text(get, "host: a", "\x01 : d"), api.ErrSpace},
		{text(get, "host: a", "b c:\x01"), api.ErrSpace},
		{text(get, "host: a", "b(: c"), api.ErrField},
		{text(get, "host: a", "\u00e9: c"), api.ErrField},
		{text(get, "host: a", "\"b\": c"), api.ErrField},
		{text(get, "host: a", "b\x7f: c"), api.ErrField},
		{text(get, "host: a", "b: \x7f"), api.ErrField},
		{text(get, "host: a", "b: c\x01 "), api.ErrField},
		{text(get, "host: a", "b: \v"), api.ErrField},
		{text(get), api.ErrHost},
		{text(get, "hosts: a"), api.ErrHost},
		{text(get, "a: host"), api.ErrHost},
		{text(get, "host: a", "host: a"), api.ErrHost},
		{text(get, "host: a", "b: c", "HOST: a"), api.ErrHost},
		{text(get, "host: a", "host: -"), api.ErrHost},
		{text(get, "host:"), api.ErrHost},
		{text(get, "host: a b"), api.ErrHost},
		{text(get, "host: a, a"), api.ErrHost},
		{text(get, "host: a:80"), api.ErrHost},
		{text(get, "host: a."), api.ErrHost},
		{text(get, "host: \u00e9"), api.ErrHost},
	} {
		if r, n, err := head.ReadRequest([]byte(c.in)); !sameRequest(r, head.Request{}) || n != 0 || err != c.want {
			t.Errorf("ReadRequest(%.80q) = %q, %d, %v; want %v", c.in, r, n, err, c.want)
		}
		compareRead(t, c.in)
	}
}

func TestOrderOfErrors(t *testing.T) { // P5.1
	many := slices.Repeat([]string{"a: b"}, 65)
	for _, c := range []struct {
		lines []string
		want  error
	}{
		{append([]string{"x\x00", " a"}, many...), api.ErrLarge},
		{append([]string{"x\r"}, many...), api.ErrLarge},
		{[]string{"get x HTTP/1.0", " a\n"}, api.ErrLine},
		{[]string{"get x HTTP/1.0", " a"}, api.ErrMethod},
		{[]string{"GET x HTTP/1.0", " a"}, api.ErrTarget},
		{[]string{"GET / HTTP/1.0", " a"}, api.ErrVersion},
		{[]string{"GET / HTTP/1.1", " a", "b", "c : d"}, api.ErrFold},
		{[]string{"GET / HTTP/1.1", "b", " a", "c : d"}, api.ErrField},
		{[]string{"GET / HTTP/1.1", "c : d", "b", " a"}, api.ErrSpace},
		{[]string{"GET / HTTP/1.1", "c: \x01", " a", "c : d"}, api.ErrField},
		{[]string{"GET / HTTP/1.1", "c: d", "host: -", "host: -", " a"}, api.ErrFold},
	} {
		if _, n, err := head.ReadRequest([]byte(text(c.lines...))); n != 0 || err != c.want {
			t.Errorf("ReadRequest of %.80q: %d, %v; want %v", c.lines, n, err, c.want)
		}
		compareRead(t, text(c.lines...))
	}
	for _, c := range []struct {
		lines []string
		want  error
	}{
		{append([]string{"x\x00", " a"}, many...), api.ErrLarge},
		{[]string{"HTTP/1.0 1", " a\n"}, api.ErrLine},
		{[]string{"HTTP/1.0 1", " a"}, api.ErrVersion},
		{[]string{"HTTP/1.1 1", " a"}, api.ErrForm},
		{[]string{"HTTP/1.1 200", " a", "b"}, api.ErrFold},
		{[]string{"HTTP/1.1 200", "b", " a"}, api.ErrField},
		{[]string{"HTTP/1.1 200", "b : c", " a"}, api.ErrSpace},
	} {
		if _, n, err := head.ReadResponse([]byte(text(c.lines...))); n != 0 || err != c.want {
			t.Errorf("ReadResponse of %.80q: %d, %v; want %v", c.lines, n, err, c.want)
		}
		compareRead(t, text(c.lines...))
	}
}

func TestReadResponse(t *testing.T) { // P5.1
	for _, c := range []struct {
		in   string
		want head.Response
	}{
		{text("HTTP/1.1 200 OK"), head.Response{200, nil}},
		{text("HTTP/1.1 200"), head.Response{200, nil}},
		{text("HTTP/1.1 200 "), head.Response{200, nil}},
		{text("HTTP/1.1 200  "), head.Response{200, nil}},
		{text("HTTP/1.1 100 \t"), head.Response{100, nil}},
		{text("HTTP/1.1 599 \x80\xff\u00e9 404 : x"), head.Response{599, nil}},
		{text("HTTP/1.1 404 OK", "A:\t1 ", "B:2", "a:"), head.Response{404, of("a", "1", "b", "2", "a", "")}},
		// The host of a response means nothing.
		{text("HTTP/1.1 299", "Host: A_B, c", "host:"), head.Response{299, of("host", "A_B, c", "host", "")}},
	} {
		for _, follows := range followers {
			r, n, err := head.ReadResponse([]byte(c.in + follows))
			if !sameResponse(r, c.want) || n != len(c.in) || err != nil {
				t.Errorf("ReadResponse(%q and %.40q) = %v, %d, %v; want %v", c.in, follows, r, n, err, c.want)
			}
		}
		compareRead(t, c.in)
	}
}

func TestReadResponseRefuses(t *testing.T) { // P5.1
	for _, c := range []struct {
		in   string
		want error
	}{
		{"", api.ErrEnd},
		{"HTTP/1.1 200 OK\r\n", api.ErrEnd},
		{"HTTP/1.1 200 OK\n\n", api.ErrEnd},
		{"\r\nHTTP/1.1 200 OK\r\n\r\n", api.ErrLine},
		{text("HTTP/1.1 200 OK\n"), api.ErrLine},
		{text("HTTP/1.1 200 \rOK"), api.ErrLine},
		{text("HTTP/1.1 200 \x00"), api.ErrLine},
		{text(" HTTP/1.1 200 OK"), api.ErrVersion},
		{text(" 200 OK"), api.ErrVersion},
		{text("HTTP/1.0 200 OK"), api.ErrVersion},
		{text("HTTP/1.12 200 OK"), api.ErrVersion},
		{text("HTTP/1. 200 OK"), api.ErrVersion},
		{text("http/1.1 200 OK"), api.ErrVersion},
		{text("HTTP/1.1\t200 OK"), api.ErrVersion},
		{text("200"), api.ErrVersion},
		{text("GET / HTTP/1.1", "host: a"), api.ErrVersion},
		{text("HTTP/1.1"), api.ErrForm},
		{text("HTTP/1.1 "), api.ErrForm},
		{text("HTTP/1.1  "), api.ErrForm},
		{text("HTTP/1.1  200"), api.ErrForm},
		{text("HTTP/1.1 20"), api.ErrForm},
		{text("HTTP/1.1 20 OK"), api.ErrForm},
		{text("HTTP/1.1 2 0"), api.ErrForm},
		{text("HTTP/1.1 2000"), api.ErrForm},
		{text("HTTP/1.1 0200"), api.ErrForm},
		{text("HTTP/1.1 099"), api.ErrForm},
		{text("HTTP/1.1 000"), api.ErrForm},
		{text("HTTP/1.1 600"), api.ErrForm},
		{text("HTTP/1.1 999 x"), api.ErrForm},
		{text("HTTP/1.1 +20"), api.ErrForm},
		{text("HTTP/1.1 -20"), api.ErrForm},
		{text("HTTP/1.1 2_0"), api.ErrForm},
		{text("HTTP/1.1 1e2"), api.ErrForm},
		{text("HTTP/1.1 20x OK"), api.ErrForm},
		{text("HTTP/1.1 200\tOK"), api.ErrForm},
		{text("HTTP/1.1 200OK"), api.ErrForm},
		{text("HTTP/1.1 200 \x01"), api.ErrForm},
		{text("HTTP/1.1 200 O\x1fK"), api.ErrForm},
		{text("HTTP/1.1 200 OK\x7f"), api.ErrForm},
		{text("HTTP/1.1 \u0662\u0660"), api.ErrForm},
		{text("HTTP/1.1 200", "\ta: b"), api.ErrFold},
		{text("HTTP/1.1 200", "a"), api.ErrField},
		{text("HTTP/1.1 200", "a : b"), api.ErrSpace},
	} {
		if r, n, err := head.ReadResponse([]byte(c.in)); !sameResponse(r, head.Response{}) || n != 0 || err != c.want {
			t.Errorf("ReadResponse(%.80q) = %v, %d, %v; want %v", c.in, r, n, err, c.want)
		}
		compareRead(t, c.in)
	}
}

func TestStatusesAndReasons(t *testing.T) { // P5.1, P5.2
	for n := -10; n <= 1100; n++ {
		compareRead(t, text(fmt.Sprintf("HTTP/1.1 %03d", n)))
		compareRead(t, text(fmt.Sprintf("HTTP/1.1 %d %s", n, referenceReason(n))))
		compareWrite(t, head.Request{}, n)
		if got := head.Reason(n); got != referenceReason(n) {
			t.Errorf("Reason(%d) = %q; want %q", n, got, referenceReason(n))
		}
	}
	for _, n := range []int{math.MinInt, -200, 1200, 200 + 1<<16, 200 + 1<<32, math.MaxInt} {
		compareWrite(t, head.Request{}, n)
		if got := head.Reason(n); got != "" {
			t.Errorf("Reason(%d) = %q", n, got)
		}
	}
}

func TestEachByteAtEachPlace(t *testing.T) { // P5.1, P5.2
	for _, s := range []string{
		text("GET /a HTTP/1.1", "Host: A.b", "c:\td e"),
		text("OPTIONS * HTTP/1.1", "a:", "host:b "),
		text("HTTP/1.1 204 No Content", "A-b: c", "host: D"),
		text("HTTP/1.1 599"),
	} {
		samples.Edits(s, func(s string) { compareRead(t, s) })
		for at := range s {
			compareRead(t, s[:at])
		}
	}
}

func TestAllShortHeads(t *testing.T) { // P5.1, P5.2
	samples.Strings(7, []string{"\r", "\n", "a", ":"}, func(s string) { compareRead(t, s) })
	samples.Strings(5, []string{"\r\n", "\r", "\n", "\x00", "a: b", " "}, func(s string) {
		compareRead(t, "GET / HTTP/1.1\r\nhost: a"+s+"\r\n\r\n")
		compareRead(t, "HTTP/1.1 200"+s)
		compareRead(t, s+"HTTP/1.1 200\r\n\r\n")
	})
}

func TestAllShortStartLines(t *testing.T) { // P5.1, P5.2
	samples.Strings(5, []string{"GET", "OPTIONS", "/", "*", " ", "HTTP/1.1", "\t"}, func(s string) {
		compareRead(t, text(s, "host: a"))
	})
	samples.Strings(5, []string{"HTTP/1.1", " ", "200", "9", "1", "\t"}, func(s string) {
		compareRead(t, text(s, "host: a"))
	})
}

func TestAllShortHeaderLines(t *testing.T) { // P5.1, P5.2
	samples.Strings(5, []string{"a", ":", " ", "\t", "\r\n", "(", "host: b"}, func(s string) {
		compareRead(t, text("GET / HTTP/1.1", "host: a", s))
		compareRead(t, text("GET / HTTP/1.1", s))
		compareRead(t, text("HTTP/1.1 200", s))
	})
}

func TestLimitOfHeads(t *testing.T) { // P5.1, P5.2
	for n := 8188; n <= 8196; n++ {
		for _, start := range []string{"GET / HTTP/1.1\r\nhost: a\r\n", "HTTP/1.1 200 OK\r\n", "HTTP/1.1 431\r\n"} {
			for _, colon := range []string{":", ": "} {
				s := start + repeat("x"+colon+repeat("y", 2000)+"\r\n", 4)
				s += "z" + colon
				s += repeat("y", n-len(s)-4) + "\r\n\r\n"
				if len(s) != n {
					t.Fatal(len(s))
				}
				checkLimit(t, s)
			}
		}
		compareRead(t, repeat("a", n))
		compareRead(t, repeat("a", n)+"\r\n\r\n")
		compareRead(t, "a"+repeat("\r\n", n))
		compareRead(t, repeat("\r", n))
		compareRead(t, repeat("\r", n)+"\r\n\r\n")
	}
	for _, n := range []int{8192, 1 << 20} {
		if _, got, err := head.ReadRequest([]byte(repeat("a", n))); got != 0 || err != api.ErrLarge {
			t.Errorf("ReadRequest of %d bytes: %d, %v", n, got, err)
		}
		if _, got, err := head.ReadResponse([]byte(repeat("a", n) + "\r\n\r\n")); got != 0 || err != api.ErrLarge {
			t.Errorf("ReadResponse of %d bytes and an end: %d, %v", n, got, err)
		}
	}
	if _, got, err := head.ReadRequest([]byte(repeat("a", 8191))); got != 0 || err != api.ErrEnd {
		t.Errorf("ReadRequest of 8191 bytes: %d, %v", got, err)
	}
}

// checkLimit reads the head s, which has no other flaw than that it may be too
// large.
func checkLimit(t *testing.T, s string) {
	t.Helper()
	compareRead(t, s)
	compareRead(t, s+"x")
	_, n, err := head.ReadRequest([]byte(s))
	if s[0] == 'H' {
		_, n, err = head.ReadResponse([]byte(s))
	}
	if len(s) <= 8192 && (n != len(s) || err != nil) || len(s) > 8192 && (n != 0 || err != api.ErrLarge) {
		t.Errorf("a head of %d bytes: %d, %v", len(s), n, err)
	}
}

func TestOtherLimits(t *testing.T) { // P5.1, P5.2
	for n := 63; n <= 66; n++ {
		// Bare line ends end no header line.
		for _, line := range []string{"a: b", "a", " a", "a\n", "a\n\n", "a\r"} {
			compareRead(t, text(append([]string{"GET / HTTP/1.1", "host: a"}, slices.Repeat([]string{line}, n-1)...)...))
			compareRead(t, text(append([]string{"HTTP/1.1 200"}, slices.Repeat([]string{line}, n)...)...))
		}
		f := append(of("host", "a"), slices.Repeat(of("b", "c"), n-1)...)
		compareWrite(t, head.Request{"GET", "/", f}, 200)
	}
	for _, c := range []struct {
		start string
		lines []string
		want  error
	}{
		{"GET / HTTP/1.1", slices.Repeat([]string{"host: a"}, 64), api.ErrLarge},
		{"GET / HTTP/1.1", slices.Repeat([]string{"host: a"}, 63), api.ErrHost},
		{"GET / HTTP/1.1", slices.Repeat([]string{"a: b"}, 63), nil},
		{repeat("A", 16) + " / HTTP/1.1", nil, nil},
		{repeat("A", 17) + " / HTTP/1.1", nil, api.ErrMethod},
		{"GET /" + repeat("a", 2047) + " HTTP/1.1", nil, nil},
		{"GET /" + repeat("a", 2048) + " HTTP/1.1", nil, api.ErrTarget},
		{"OPTIONS " + repeat("*", 2048) + " HTTP/1.1", nil, api.ErrTarget},
		{"GET / HTTP/1.1", []string{repeat("a", 64) + ": b"}, nil},
		{"GET / HTTP/1.1", []string{repeat("a", 65) + ": b"}, api.ErrField},
		{"GET / HTTP/1.1", []string{"a: " + repeat("b", 2048)}, nil},
		{"GET / HTTP/1.1", []string{"a: " + repeat("b", 2049)}, api.ErrField},
		{"GET / HTTP/1.1", []string{"a:" + repeat(" \t", 2000) + repeat("b", 2048) + "\t "}, nil},
		{"GET / HTTP/1.1", []string{"host: " + repeat("a.", 49) + "ab"}, api.ErrHost},
	} {
		s := text(append([]string{c.start, "host: " + repeat("a.", 49) + "ab"}, c.lines...)...)
		if _, _, err := head.ReadRequest([]byte(s)); err != c.want {
			t.Errorf("ReadRequest(%.80q): %v; want %v", s, err, c.want)
		}
		compareRead(t, s)
	}
	s := text("GET / HTTP/1.1", "host: "+repeat("a.", 49)+"abc")
	if _, _, err := head.ReadRequest([]byte(s)); err != api.ErrHost {
		t.Errorf("a host of 101 bytes: %v", err)
	}
}

func TestWriteRequest(t *testing.T) { // P5.1, P5.2
	for _, c := range []struct {
		r    head.Request
		want string
	}{
		{head.Request{"GET", "/", of("host", "a")}, "GET / HTTP/1.1\r\nhost: a\r\n\r\n"},
		{head.Request{"OPTIONS", "*", of("Host", "A")}, "OPTIONS * HTTP/1.1\r\nhost: a\r\n\r\n"},
		{head.Request{"A", "/b?c", of("X", "", "HOST", "A.B", "x-Y", "Z\tz", "X", "\xff")}, "A /b?c HTTP/1.1\r\nx: \r\nhost: a.b\r\nx-y: Z\tz\r\nx: \xff\r\n\r\n"},
	} {
		if b, err := head.WriteRequest(c.r); string(b) != c.want || err != nil {
			t.Errorf("WriteRequest(%q) = %q, %v; want %q", c.r, b, err, c.want)
		}
		compareWrite(t, c.r, 200)
	}
}

func TestWriteResponse(t *testing.T) { // P5.1, P5.2
	for _, c := range []struct {
		r    head.Response
		want string
	}{
		{head.Response{204, nil}, "HTTP/1.1 204 No Content\r\n\r\n"},
		{head.Response{299, field.Fields{}}, "HTTP/1.1 299 \r\n\r\n"},
		{head.Response{100, of("A", "b")}, "HTTP/1.1 100 Continue\r\na: b\r\n\r\n"},
		{head.Response{599, of("b", "", "A", "", "B", "x")}, "HTTP/1.1 599 \r\nb: \r\na: \r\nb: x\r\n\r\n"},
		{head.Response{200, of("Host", "A_B", "host", "-")}, "HTTP/1.1 200 OK\r\nhost: A_B\r\nhost: -\r\n\r\n"},
	} {
		if b, err := head.WriteResponse(c.r); string(b) != c.want || err != nil {
			t.Errorf("WriteResponse(%v) = %q, %v; want %q", c.r, b, err, c.want)
		}
		compareWrite(t, head.Request{Fields: c.r.Fields}, c.r.Status)
	}
}

func TestWriteRefuses(t *testing.T) { // P5.1
	host := of("host", "a")
	for _, c := range []struct {
		r    head.Request
		want error
	}{
		{head.Request{}, api.ErrMethod},
		{head.Request{"", "/", host}, api.ErrMethod},
		{head.Request{"get", "/", host}, api.ErrMethod},
		{head.Request{"GET ", "/", host}, api.ErrMethod},
		{head.Request{"GET\r\n", "/", host}, api.ErrMethod},
		{head.Request{repeat("A", 17), "/", host}, api.ErrMethod},
		{head.Request{"GET", "", host}, api.ErrTarget},
		{head.Request{"GET", "a", host}, api.ErrTarget},
		{head.Request{"GET", "*", host}, api.ErrTarget},
		{head.Request{"GET", "/ HTTP/1.1", host}, api.ErrTarget},
		{head.Request{"GET", "/\r\n", host}, api.ErrTarget},
		{head.Request{"GET", "/\x00", host}, api.ErrTarget},
		{head.Request{"GET", "/\u00e9", host}, api.ErrTarget},
		{head.Request{"GET", "/" + repeat("a", 2048), host}, api.ErrTarget},
		{head.Request{"GET", "/", of("host", "a", "", "b")}, api.ErrField},
		{head.Request{"GET", "/", of("host", "a", "b ", "c")}, api.ErrField},
		{head.Request{"GET", "/", of("host", "a", "b:", "c")}, api.ErrField},
		{head.Request{"GET", "/", of("host", "a", "b\r\nc", "d")}, api.ErrField},
		{head.Request{"GET", "/", of("host", "a", repeat("b", 65), "c")}, api.ErrField},
		{head.Request{"GET", "/", of("host", "a", "b", " ")}, api.ErrField},
		{head.Request{"GET", "/", of("host", "a", "b", " c")}, api.ErrField},
		{head.Request{"GET", "/", of("host", "a", "b", "c\t")}, api.ErrField},
		{head.Request{"GET", "/", of("host", "a", "b", "c\r\nd: e")}, api.ErrField},
		{head.Request{"GET", "/", of("host", "a", "b", "\n")}, api.ErrField},
		{head.Request{"GET", "/", of("host", "a", "b", "\x00")}, api.ErrField},
		{head.Request{"GET", "/", of("host", "a", "b", repeat("c", 2049))}, api.ErrField},
		{head.Request{"GET", "/", of("host", "a ")}, api.ErrField},
		{head.Request{"GET", "/", nil}, api.ErrHost},
		{head.Request{"GET", "/", of("b", "c")}, api.ErrHost},
		{head.Request{"GET", "/", of("host", "")}, api.ErrHost},
		{head.Request{"GET", "/", of("host", "-")}, api.ErrHost},
		{head.Request{"GET", "/", of("host", "a:80")}, api.ErrHost},
		{head.Request{"GET", "/", of("host", "a", "Host", "a")}, api.ErrHost},
		// The first error counts.
		{head.Request{"get", "a", of("b ", "c")}, api.ErrMethod},
		{head.Request{"GET", "a", of("b ", "c")}, api.ErrTarget},
		{head.Request{"GET", "/", of("host", "-", "b ", "c")}, api.ErrField},
		{head.Request{"get", "a", slices.Repeat(of("b ", "c"), 64)}, api.ErrMethod},
		{head.Request{"get", "a", slices.Repeat(of("b ", "c"), 65)}, api.ErrLarge},
		{head.Request{"get", "a", of("b ", repeat(" ", 8192))}, api.ErrLarge},
		{head.Request{"get", repeat("a", 8192), nil}, api.ErrLarge},
		{head.Request{repeat("a", 8192), "", nil}, api.ErrLarge},
		{head.Request{"", "", of(repeat("a", 8192), "")}, api.ErrLarge},
	} {
		if b, err := head.WriteRequest(c.r); len(b) != 0 || err != c.want {
			t.Errorf("WriteRequest(%.80q) = %.80q, %v; want %v", c.r, b, err, c.want)
		}
		compareWrite(t, c.r, 200)
	}
	for _, c := range []struct {
		r    head.Response
		want error
	}{
		{head.Response{}, api.ErrForm},
		{head.Response{99, nil}, api.ErrForm},
		{head.Response{600, nil}, api.ErrForm},
		{head.Response{-200, nil}, api.ErrForm},
		{head.Response{math.MaxInt, nil}, api.ErrForm},
		{head.Response{200, of("", "b")}, api.ErrField},
		{head.Response{200, of("a", "b ")}, api.ErrField},
		{head.Response{200, of("a", "b\r\n\r\nc")}, api.ErrField},
		{head.Response{0, of("", "b")}, api.ErrForm},
		{head.Response{0, slices.Repeat(of("", "b"), 65)}, api.ErrLarge},
		{head.Response{0, of("", repeat("\n", 8192))}, api.ErrLarge},
	} {
		if b, err := head.WriteResponse(c.r); len(b) != 0 || err != c.want {
			t.Errorf("WriteResponse(%.80v) = %.80q, %v; want %v", c.r, b, err, c.want)
		}
		compareWrite(t, head.Request{Fields: c.r.Fields}, c.r.Status)
	}
}

// filled returns fields of n bytes, written as header lines; n is large.
func filled(n int) field.Fields {
	f := append(of("host", "a"), slices.Repeat(of("b", repeat("c", 1600)), 4)...)
	return append(f, field.Field{Name: "d", Value: repeat("e", n-field.Size(f)-len("d: \r\n"))})
}

func TestLimitOfWriting(t *testing.T) { // P5.1, P5.2
	// A request needs the bytes of "GET / HTTP/1.1" and of two line ends beside its fields.
	for n := 8192 - 18 - 40; n <= 8192-18+2; n++ {
		f := filled(n)
		if field.Size(f) != n {
			t.Fatal(field.Size(f))
		}
		b, err := head.WriteRequest(head.Request{"GET", "/", f})
		if n <= 8192-18 && (len(b) != n+18 || err != nil) || n > 8192-18 && (len(b) != 0 || err != api.ErrLarge) {
			t.Errorf("WriteRequest of %d bytes: %d, %v", n+18, len(b), err)
		}
		for _, status := range []int{math.MinInt, -1, 0, 5, 99, 100, 200, 299, 431, 500, 599, 600, 1000, 123456, math.MaxInt} {
			compareWrite(t, head.Request{"GET", "/", f}, status)
			compareWrite(t, head.Request{"OPTIONS", "*", f}, status)
			// Where the head is too large, nothing else counts.
			compareWrite(t, head.Request{"get", "/", f}, status)
			f[1].Name = " "
			compareWrite(t, head.Request{"GET", "/", f}, status)
			f[1].Name = "b"
		}
	}
	// A status that is out of range counts as three digits, and has no reason.
	length := len("HTTP/1.1 123 \r\n\r\n")
	for _, status := range []int{math.MinInt, -1, 0, 600, 1000, math.MaxInt} {
		if _, err := head.WriteResponse(head.Response{status, filled(8192 - length)}); err != api.ErrForm {
			t.Errorf("WriteResponse of the status %d and 8192 bytes: %v", status, err)
		}
		if _, err := head.WriteResponse(head.Response{status, filled(8193 - length)}); err != api.ErrLarge {
			t.Errorf("WriteResponse of the status %d and 8193 bytes: %v", status, err)
		}
	}
}

// heads are heads that are accepted, and short.
func heads() []string {
	return []string{
		text("GET / HTTP/1.1", "host: a"),
		text("GET /a HTTP/1.1", "HOST: A.b "),
		text("OPTIONS * HTTP/1.1", "A:", "host: \t b", "a: \tc\t d:\t"),
		text("POST /a?b HTTP/1.1", "a:b", "host:c", "content-length:0"),
		text("HTTP/1.1 200 OK"),
		text("HTTP/1.1 404"),
		text("HTTP/1.1 299 ", "a:", "B: c"),
		text("HTTP/1.1 500 a\tb", "A: ", "b:\t"),
	}
}

// read reads a head that is one of a request or of a response, as that of
// which s is a variation.
func read(s, from string) (int, error) {
	if strings.HasPrefix(from, "HTTP") {
		_, n, err := head.ReadResponse([]byte(s))
		return n, err
	}
	_, n, err := head.ReadRequest([]byte(s))
	return n, err
}

func TestPrefixes(t *testing.T) { // P5.3
	rest := 8192 - len(text("GET / HTTP/1.1", "host: a", repeat("b", 64)+": "+repeat("c", 2048), "d:"))
	long := text("GET / HTTP/1.1", "host: a", repeat("b", 64)+": "+repeat("c", 2048), "d:"+repeat(" ", rest))
	for _, s := range append(heads(), long) {
		if n, err := read(s, s); n != len(s) || err != nil {
			t.Errorf("%.80q: %d, %v", s, n, err)
		}
		for i := range s {
			if n, err := read(s[:i], s); n != 0 || err != api.ErrEnd {
				t.Errorf("the first %d bytes of %.80q: %d, %v", i, s, n, err)
			}
		}
	}
}

func TestInsertions(t *testing.T) { // P5.3
	for _, s := range heads() {
		for i := range s {
			for _, c := range []string{"\r", "\n", "\x00"} {
				for _, follows := range followers {
					n, err := read(s[:i]+c+s[i:]+follows, s)
					if c == "\n" && i == len(s)-1 {
						if n != len(s) || err != nil {
							t.Errorf("%q with an LF after it: %d, %v", s, n, err)
						}
						continue
					}
					if n != 0 || err == nil {
						t.Errorf("%q with %q at %d, followed by %.40q, is accepted: %d", s, c, i, follows, n)
					}
				}
				compareRead(t, s[:i]+c+s[i:])
			}
		}
	}
}

func TestHeadsOneAfterTheOther(t *testing.T) { // P5.2, and P2
	var b []byte
	var sent []head.Request
	for i := range 100 {
		r := head.Request{"GET", fmt.Sprintf("/%d", i), of("host", "a", "x", repeat("y", i))}
		written, err := head.WriteRequest(r)
		if err != nil {
			t.Fatal(err)
		}
		sent, b = append(sent, r), append(b, written...)
	}
	for i, want := range sent {
		r, n, err := head.ReadRequest(b)
		if !sameRequest(r, want) || err != nil {
			t.Fatalf("head %d is %q, %v", i, r, err)
		}
		b = b[n:]
	}
	if len(b) != 0 {
		t.Errorf("%q is left", b)
	}
}

// someHead returns a head that is often accepted.
func someHead(random *rand.Rand) string {
	lines := []string{some(random, "GET", "POST", "OPTIONS", "A") + " " + some(random, "/", "/a", "*", "/a?b=%20") + " HTTP/1.1"}
	if random.Intn(2) == 0 {
		lines[0] = "HTTP/1.1 " + some(random, "200", "404", "299", "599", "099") + some(random, "", " ", " OK", " a\tb ")
	}
	for range random.Intn(6) {
		lines = append(lines, some(random, "a", "A-b", "X", "host", "!")+":"+some(random, "", " ", "\t ")+some(random, "", "a", "A.b", "c, d", "\xff", ":")+some(random, "", " ", " \t"))
	}
	at := 1 + random.Intn(len(lines))
	lines = slices.Insert(lines, at, some(random, "host", "Host", "HOST")+": "+some(random, "a", "A", "a.B", "-"))
	return text(lines...)
}

func spoil(random *rand.Rand, s string) string {
	return samples.Spoil(random, s, "\r", "\n", "\r\n", "\x00", " ", "\t", ":", "a", "A", "0", "\x7f", "\x80")
}

func TestRandomHeads(t *testing.T) { // P5.1, P5.2
	random := rand.New(rand.NewSource(5))
	for range 20000 {
		s := someHead(random)
		compareRead(t, s+some(random, followers...))
		compareRead(t, spoil(random, s))
	}
}

func TestRandomMessages(t *testing.T) { // P5.1, P5.2
	random := rand.New(rand.NewSource(6))
	for range 20000 {
		var f field.Fields
		for range random.Intn(5) {
			f = append(f, of(some(random, "a", "B", "host", "Host", "x-Y", "x-Y", "a b", ""), some(random, "", "a", "A.b", "c, d", "c, d", " a", "a\t", "\r\n", "\xff"))...)
		}
		f = slices.Insert(f, random.Intn(len(f)+1), of("Host", some(random, "a", "A", "-"))...)
		r := head.Request{some(random, "GET", "GET", "OPTIONS", "get", ""), some(random, "/", "/a", "*", "", "a", "/ "), f}
		compareWrite(t, r, 80+random.Intn(560))
	}
}

func FuzzHeads(f *testing.F) { // P5.1, P5.2, P5.3
	for _, s := range heads() {
		f.Add(s, "GET", "/", 200, "host", "a", "b", " c")
	}
	f.Add("\r\n", "OPTIONS", "*", 600, "Host", "A.b", "host", "\r\n")
	f.Fuzz(func(t *testing.T, s, method, target string, status int, name, value, other, text string) {
		compareRead(t, s)
		for _, start := range []string{"GET / HTTP/1.1\r\nhost: a\r\n", "HTTP/1.1 200\r\n", "GET ", "HTTP/1.1 "} {
			compareRead(t, start+s)
			compareRead(t, start+s+"\r\n\r\n")
		}
		compareWrite(t, head.Request{method, target, of(name, value, other, text)}, status)
		compareWrite(t, head.Request{"GET", target, of(name, value, "Host", "A", other, text)}, status)
	})
}

func TestArgumentsAndResultsAreSeparate(t *testing.T) { // P1 with rule 3
	request := text("GET /a HTTP/1.1", "Host: b", "c: d")
	b := []byte(request)
	first, _, _ := head.ReadRequest(b)
	second, _, _ := head.ReadRequest(b)
	clear(first.Fields)
	clear(b)
	if want := (head.Request{"GET", "/a", of("host", "b", "c", "d")}); !sameRequest(second, want) {
		t.Errorf("a request shares memory with another or with an argument: %q", second)
	}
	response := text("HTTP/1.1 200 OK", "c: d")
	b = []byte(response)
	one, _, _ := head.ReadResponse(b)
	two, _, _ := head.ReadResponse(b)
	clear(one.Fields)
	clear(b)
	if want := (head.Response{200, of("c", "d")}); !sameResponse(two, want) {
		t.Errorf("a response shares memory with another or with an argument: %v", two)
	}
	f := append(make(field.Fields, 0, 9), of("Host", "B", "C", "d")...)
	kept := slices.Clone(f[:9])
	written, _ := head.WriteRequest(head.Request{"GET", "/a", f})
	again, _ := head.WriteRequest(head.Request{"GET", "/a", f})
	other, _ := head.WriteResponse(head.Response{200, f})
	if !slices.Equal(f[:9], kept) {
		t.Errorf("the fields were changed to %q", f[:9])
	}
	clear(f)
	clear(written)
	if want := text("GET /a HTTP/1.1", "host: b", "c: d"); string(again) != want {
		t.Errorf("what is written shares memory: %q", again)
	}
	if want := text("HTTP/1.1 200 OK", "host: B", "c: d"); string(other) != want {
		t.Errorf("what is written shares memory: %q", other)
	}
}

func TestLongInputs(t *testing.T) { // P1
	const n = 1 << 22
	for _, s := range []string{"\r\n", "\r", "\n", "a", " ", ":", "\x00", "a: b\r\n", "\r\n\r", "a\r\n\r\n"} {
		long := bytes.Repeat([]byte(s), n)
		_, _, err := head.ReadRequest(long)
		_, _, err2 := head.ReadResponse(long)
		if err == nil || err2 == nil {
			t.Errorf("many times %q: %v, %v", s, err, err2)
		}
		long = append([]byte("GET / HTTP/1.1\r\nhost: a\r\n\r\n"), long...)
		if _, got, err := head.ReadRequest(long); got != 27 || err != nil {
			t.Errorf("a head and many times %q: %d, %v", s, got, err)
		}
		text := repeat(s, n)
		for _, r := range []head.Request{{text, "/", nil}, {"GET", text, nil}, {"GET", "/", of(text, "a")}, {"GET", "/", of("host", text)}} {
			if _, err := head.WriteRequest(r); err != api.ErrLarge {
				t.Errorf("WriteRequest of many times %q: %v", s, err)
			}
		}
	}
	if _, err := head.WriteResponse(head.Response{200, slices.Repeat(of("a", "b"), n)}); err != api.ErrLarge {
		t.Errorf("WriteResponse of many fields: %v", err)
	}
}
