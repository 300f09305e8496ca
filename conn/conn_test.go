package conn_test

import (
	"fmt"
	"math/rand"
	"reflect"
	"slices"
	"strings"
	"testing"

	"quayside/api"
	"quayside/conn"
	"quayside/head"
	"quayside/samples"
)

// of returns the fields with the names and values given in turn, and some one
// of the texts.
var (
	of   = samples.Fields
	some = samples.Some
)

func repeat(s string, n int) string {
	return strings.Repeat(s, n)
}

// text returns the head of the lines.
func text(lines ...string) string {
	return strings.Join(lines, "\r\n") + "\r\n\r\n"
}

// request returns the Head of a request to the host a, with the fields given
// in turn.
func request(method, target string, texts ...string) conn.Event {
	return conn.Event{Kind: conn.Head, Request: head.Request{Method: method, Target: target, Fields: append(of("host", "a"), of(texts...)...)}}
}

// response returns the Head of a response with the fields given in turn.
func response(status int, texts ...string) conn.Event {
	return conn.Event{Kind: conn.Head, Response: head.Response{Status: status, Fields: of(texts...)}}
}

func data(s string) conn.Event {
	return conn.Event{Kind: conn.Data, Data: []byte(s)}
}

// end returns an End with the trailers given in turn.
func end(texts ...string) conn.Event {
	return conn.Event{Kind: conn.End, Trailers: of(texts...)}
}

// requests is the side on which requests arrive; responses the one on which
// the responses to the methods arrive.
var requests side

func responses(methods ...string) side {
	return side{true, methods}
}

func (p side) open() *conn.Conn {
	if p.responses {
		return conn.Responses(p.methods)
	}
	return conn.Requests()
}

// isProper reports whether e has what belongs to its Kind, and nothing else.
func isProper(p side, e conn.Event) bool {
	want := conn.Event{Kind: e.Kind}
	switch {
	case e.Kind == conn.Head && p.responses:
		want.Response = e.Response
	case e.Kind == conn.Head:
		want.Request = e.Request
	case e.Kind == conn.Data && len(e.Data) > 0:
		want.Data = e.Data
	case e.Kind == conn.End:
		want.Trailers = e.Trailers
	default:
		return false
	}
	return reflect.DeepEqual(e, want)
}

// read writes the parts to a connection, closes it, and returns what comes of
// that. It checks what each step must be like.
func read(t *testing.T, p side, parts ...string) outcome {
	t.Helper()
	c := p.open()
	var o outcome
	for _, part := range parts {
		b := []byte(part)
		events, err := c.Write(b)
		if string(b) != part {
			t.Errorf("the argument %.200q was changed", part)
		}
		if (o.err != nil || part == "") && (len(events) != 0 || err != o.err) {
			t.Errorf("Write(%.200q) after %.400v: %.200s, %v", part, o, show(events), err)
		}
		for i, e := range events {
			if !isProper(p, e) {
				t.Errorf("Write(%.200q) returns %v", part, e)
			}
			if i > 0 && e.Kind == conn.Data && events[i-1].Kind == conn.Data {
				t.Errorf("Write(%.200q) returns two Data of one body: %.400s", part, show(events))
			}
		}
		o.events = append(o.events, events...)
		o.err = err
	}
	o.last, o.lastErr = c.Close()
	for _, e := range o.last {
		if !isProper(p, e) {
			t.Errorf("Close after %.200q returns %v", parts, e)
		}
	}
	stays(t, c, o.lastErr)
	return o
}

// stays checks a connection that is closed, or has an error.
func stays(t *testing.T, c *conn.Conn, err error) {
	t.Helper()
	for range 2 {
		for _, b := range [][]byte{nil, {}} {
			if list, e := c.Write(b); len(list) != 0 || e != err {
				t.Errorf("Write of nothing after Close: %v, %v; want %v", list, e, err)
			}
		}
		if list, e := c.Close(); len(list) != 0 || e != err {
			t.Errorf("Close after Close: %v, %v; want %v", list, e, err)
		}
	}
	want := err
	if want == nil {
		want = api.ErrState
	}
	for _, s := range []string{"G", text("GET / HTTP/1.1", "host: a"), text("HTTP/1.1 200 OK"), ""} {
		if list, e := c.Write([]byte(s)); len(list) != 0 || e != want {
			t.Errorf("Write(%q) after Close: %v, %v; want %v", s, list, e, want)
		}
		if list, e := c.Close(); len(list) != 0 || e != want {
			t.Errorf("Close after Write(%q): %v, %v; want %v", s, list, e, want)
		}
	}
}

// compare checks a connection against reference_test.go, for some cuts of s,
// and P8.3 for the events.
func compare(t *testing.T, p side, s string) {
	t.Helper()
	want := referenceRead(p, s)
	got := read(t, p, s)
	if !same(got, want) {
		t.Errorf("%.400q: %.400v; want %.400v", s, got, want)
	}
	for _, parts := range [][]string{samples.Bytewise(s), {s[:len(s)/2], "", s[len(s)/2:]}} {
		if got := read(t, p, parts...); !same(got, want) {
			t.Errorf("%.400q in parts: %.400v; want %.400v", parts, got, want)
		}
	}
	if !p.responses {
		keep(t, s, got.events)
	}
}

// compareCuts is compare for s and all its beginnings, with all cuts of s into
// two, and some into three.
func compareCuts(t *testing.T, p side, s string) {
	t.Helper()
	want := referenceRead(p, s)
	for i := range len(s) + 1 {
		compare(t, p, s[:i])
		j := i + (len(s)-i)/3
		for _, parts := range [][]string{{s[:i], s[i:]}, {s[:i], s[i:j], s[j:]}} {
			if got := read(t, p, parts...); !same(got, want) {
				t.Errorf("%.400q in parts: %.400v; want %.400v", parts, got, want)
			}
		}
	}
}

// keep is P8.3 for the events of requests that were read from s.
func keep(t *testing.T, s string, list []conn.Event) {
	t.Helper()
	b, err := conn.Format(list)
	if (err == api.ErrLarge || err == api.ErrTrailer) && len(s) > 8000 {
		// Writing adds a blank to each field, which can make a head or the
		// trailers too large.
		return
	}
	if err != nil {
		t.Errorf("Format of what was read from %.400q: %v", s, err)
	}
	for _, parts := range [][]string{{string(b)}, samples.Bytewise(string(b))} {
		if got := read(t, requests, parts...); show(got.events) != show(list) || got.err != nil {
			t.Errorf("%.400q is written as %.400q, and read as %.400v", s, b, got)
		}
	}
}

func TestExamples(t *testing.T) { // P8.1
	got := read(t, requests, "POST / HTTP/1.1\r\nhost: a\r\ncontent-length: 3\r\n\r\nabcGET")
	want := outcome{[]conn.Event{request("POST", "/", "content-length", "3"), data("abc"), end()}, nil, nil, api.ErrEnd}
	if !same(got, want) {
		t.Errorf("the example of requests: %v", got)
	}
	got = read(t, responses("HEAD", "GET"), text("HTTP/1.1 200 OK", "content-length: 5")+text("HTTP/1.1 100 Continue")+text("HTTP/1.1 200 OK")+"all that\r\n\r\n", "follows")
	want = outcome{[]conn.Event{response(200, "content-length", "5"), end(), response(100), response(200), data("all that\r\n\r\nfollows")}, nil, []conn.Event{end()}, nil}
	if !same(got, want) {
		t.Errorf("the example of responses: %v", got)
	}
}

// chunkedHead is the head of a request with a chunked body.
var chunkedHead = text("PUT /a HTTP/1.1", "Host: A", "Transfer-Encoding: Chunked")

// posted returns a request with a body s.
func posted(s string) string {
	return text("POST / HTTP/1.1", "host:a", fmt.Sprintf("content-length:%d", len(s))) + s
}

func TestRequests(t *testing.T) { // P8.1, P8.2
	get := text("GET / HTTP/1.1", "host: a")
	none := []conn.Event{request("GET", "/"), end()}
	coded := request("PUT", "/a", "transfer-encoding", "Chunked")
	for _, c := range []struct {
		s       string
		want    []conn.Event
		lastErr error
	}{
		{"", nil, nil},
		{"G", nil, api.ErrEnd},
		{"\r", nil, api.ErrEnd},
		{get[:len(get)-1], nil, api.ErrEnd},
		{get, none, nil},
		{get + get[:1], none, api.ErrEnd},
		{get + get, slices.Concat(none, none), nil},
		{text("OPTIONS * HTTP/1.1", "B:\tc ", "HOST: A"), []conn.Event{{Kind: conn.Head, Request: head.Request{Method: "OPTIONS", Target: "*", Fields: of("b", "c", "host", "a")}}, end()}, nil},
		// A body of no bytes is ended at once, also for a method that has none.
		{posted(""), []conn.Event{request("POST", "/", "content-length", "0"), end()}, nil},
		{posted("a"), []conn.Event{request("POST", "/", "content-length", "1"), data("a"), end()}, nil},
		{strings.Replace(posted("ab"), "POST", "HEAD", 1), []conn.Event{request("HEAD", "/", "content-length", "2"), data("ab"), end()}, nil},
		{posted("ab")[:len(posted("ab"))-1], []conn.Event{request("POST", "/", "content-length", "2"), data("a")}, api.ErrEnd},
		{posted("ab")[:len(posted("ab"))-2], []conn.Event{request("POST", "/", "content-length", "2")}, api.ErrEnd},
		{text("POST / HTTP/1.1", "host: a", "content-length: 2, 2") + "ab", []conn.Event{request("POST", "/", "content-length", "2, 2"), data("ab"), end()}, nil},
		// What would be a head elsewhere is data in a body.
		{posted(get) + get, append([]conn.Event{request("POST", "/", "content-length", "27"), data(get), end()}, none...), nil},
		{posted("\r\n\r\n\x00\xff"), []conn.Event{request("POST", "/", "content-length", "6"), data("\r\n\r\n\x00\xff"), end()}, nil},
		{chunkedHead, []conn.Event{coded}, api.ErrEnd},
		{chunkedHead + "0\r\n\r", []conn.Event{coded}, api.ErrEnd},
		{chunkedHead + "0\r\n\r\n", []conn.Event{coded, end()}, nil},
		{chunkedHead + "0\r\n\r\n" + get, slices.Concat([]conn.Event{coded, end()}, none), nil},
		{chunkedHead + "2;x\r\nab\r\n003\r\n\r\n!\r\n0\r\nB: c \r\nB:d\r\n\r\n" + get, append([]conn.Event{coded, data("ab\r\n!"), end("b", "c", "b", "d")}, none...), nil},
		{chunkedHead + "2\r\na", []conn.Event{coded, data("a")}, api.ErrEnd},
	} {
		want := outcome{c.want, nil, nil, c.lastErr}
		if got := read(t, requests, c.s); !same(got, want) {
			t.Errorf("%q: %v; want %v", c.s, got, want)
		}
		compareCuts(t, requests, c.s)
	}
}

func TestResponses(t *testing.T) { // P8.1, P8.2
	plain := text("HTTP/1.1 200 OK")
	five := text("HTTP/1.1 200 OK", "content-length: 5")
	coded := text("HTTP/1.1 200 OK", "transfer-encoding: chunked")
	coding := []string{"transfer-encoding", "chunked"}
	for _, c := range []struct {
		methods string
		s       string
		want    []conn.Event
		last    []conn.Event
		lastErr error
	}{
		{"", "", nil, nil, nil},
		{"GET", "", nil, nil, nil},
		{"GET", "HTTP", nil, nil, api.ErrEnd},
		{"GET", plain, []conn.Event{response(200)}, []conn.Event{end()}, nil},
		{"GET", plain + plain, []conn.Event{response(200), data(plain)}, []conn.Event{end()}, nil},
		{"GET GET", plain + "\x00", []conn.Event{response(200), data("\x00")}, []conn.Event{end()}, nil},
		{"GET", five + "abcd", []conn.Event{response(200, "content-length", "5"), data("abcd")}, nil, api.ErrEnd},
		{"GET", five + "abcde", []conn.Event{response(200, "content-length", "5"), data("abcde"), end()}, nil, nil},
		{"GET GET", five + "abcde" + plain + "f", []conn.Event{response(200, "content-length", "5"), data("abcde"), end(), response(200), data("f")}, []conn.Event{end()}, nil},
		{"GET POST", coded + "1\r\na\r\n0\r\nb:c\r\n\r\n" + five[:9], []conn.Event{response(200, coding...), data("a"), end("b", "c")}, nil, api.ErrEnd},
		{"PUT GET", text("HTTP/1.1 200", "content-length: 0") + plain, []conn.Event{response(200, "content-length", "0"), end(), response(200)}, []conn.Event{end()}, nil},
		// A response to HEAD has no body, whatever its fields say.
		{"HEAD", plain, []conn.Event{response(200), end()}, nil, nil},
		{"HEAD GET", five + five + "abcde", []conn.Event{response(200, "content-length", "5"), end(), response(200, "content-length", "5"), data("abcde"), end()}, nil, nil},
		{"HEAD GET", coded + plain + "a", []conn.Event{response(200, coding...), end(), response(200), data("a")}, []conn.Event{end()}, nil},
		{"head", five + "abcde", []conn.Event{response(200, "content-length", "5"), data("abcde"), end()}, nil, nil},
		{"GET HEAD", text("HTTP/1.1 204", "content-length: 5") + text("HTTP/1.1 404 -"), []conn.Event{response(204, "content-length", "5"), end(), response(404), end()}, nil, nil},
		{"GET GET", text("HTTP/1.1 304") + text("HTTP/1.1 205", "content-length:1") + "a", []conn.Event{response(304), end(), response(205, "content-length", "1"), data("a"), end()}, nil, nil},
		// A response 1xx uses up no method.
		{"GET", text("HTTP/1.1 100 Continue"), []conn.Event{response(100)}, nil, nil},
		{"GET", text("HTTP/1.1 100 Continue") + "H", []conn.Event{response(100)}, nil, api.ErrEnd},
		{"GET", text("HTTP/1.1 101") + text("HTTP/1.1 199", "content-length: 5") + plain + "a", []conn.Event{response(101), response(199, "content-length", "5"), response(200), data("a")}, []conn.Event{end()}, nil},
		{"HEAD GET", text("HTTP/1.1 100") + five + text("HTTP/1.1 100") + plain, []conn.Event{response(100), response(200, "content-length", "5"), end(), response(100), response(200)}, []conn.Event{end()}, nil},
	} {
		p := responses(strings.Fields(c.methods)...)
		want := outcome{c.want, nil, c.last, c.lastErr}
		if got := read(t, p, c.s); !same(got, want) {
			t.Errorf("%q for %s: %v; want %v", c.s, c.methods, got, want)
		}
		compareCuts(t, p, c.s)
	}
}

func TestWriteRefuses(t *testing.T) { // P8.1, P8.2
	get := text("GET / HTTP/1.1", "host: a")
	five := text("HTTP/1.1 200 OK", "content-length: 5")
	coded := text("HTTP/1.1 200 OK", "transfer-encoding: chunked")
	one, two := responses("GET"), responses("GET", "GET")
	for _, c := range []struct {
		p    side
		s    string
		n    int // how many events come before the error
		want error
	}{
		{requests, "\r\n" + get, 0, api.ErrLine},
		{requests, text("GET / HTTP/1.1\n", "host: a"), 0, api.ErrLine},
		{requests, text("GET / HTTP/1.1", "host: a", " b: c"), 0, api.ErrFold},
		{requests, text("GET / HTTP/1.1", "host : a"), 0, api.ErrSpace},
		{requests, text("GET / HTTP/1.1", "host: a", "b"), 0, api.ErrField},
		{requests, text("get / HTTP/1.1", "host: a"), 0, api.ErrMethod},
		{requests, text("GET  / HTTP/1.1", "host: a"), 0, api.ErrTarget},
		{requests, text("GET / HTTP/1.0", "host: a"), 0, api.ErrVersion},
		{requests, text("GET / HTTP/1.1"), 0, api.ErrHost},
		{requests, text("GET / HTTP/1.1", "host: a", "content-length: x"), 0, api.ErrLength},
		{requests, text("GET / HTTP/1.1", "host: a", "content-length: 1", "content-length: 2"), 0, api.ErrLength},
		{requests, text("GET / HTTP/1.1", "host: a", "content-length: 65537"), 0, api.ErrLarge},
		{requests, text("GET / HTTP/1.1", "host: a", "transfer-encoding: gzip"), 0, api.ErrCoding},
		{requests, text("GET / HTTP/1.1", "host: a", "content-length: 1", "transfer-encoding: chunked"), 0, api.ErrBoth},
		{requests, text("HTTP/1.1 200 OK"), 0, api.ErrMethod},
		// The errors of a head come before those of its frame.
		{requests, text("GET / HTTP/1.1", "content-length: 1", "transfer-encoding: chunked"), 0, api.ErrHost},
		{requests, get + "\r\n", 2, api.ErrLine},
		{requests, get + get + text("GET / HTTP/1.1"), 4, api.ErrHost},
		{requests, posted("a") + "b" + get, 3, api.ErrMethod},
		{requests, chunkedHead + "g", 1, api.ErrChunk},
		{requests, chunkedHead + "3\r\nabcd", 2, api.ErrChunk},
		{requests, chunkedHead + "1\r\na\r\n1\r\nb\r\n10000\r\n", 2, api.ErrLarge},
		{requests, chunkedHead + "0\r\nhost: a\r\n\r\n", 1, api.ErrTrailer},
		{requests, chunkedHead + "1\r\na\r\n0\r\na\r\n\r\n" + get, 2, api.ErrTrailer},
		{responses(), "H", 0, api.ErrState},
		{responses(), "\r\n", 0, api.ErrState},
		{responses(), five, 0, api.ErrState},
		{one, five + "abcde" + "x", 3, api.ErrState},
		{one, five + "abcde" + five, 3, api.ErrState},
		{responses("HEAD"), five + "abcde", 2, api.ErrState},
		{one, text("HTTP/1.1 204 No Content") + "\r\n", 2, api.ErrState},
		{one, coded + "0\r\n\r\n" + "\x00", 2, api.ErrState},
		{one, text("HTTP/1.1 100") + text("HTTP/1.1 304") + text("HTTP/1.1 100"), 3, api.ErrState},
		{one, "\r\n" + five, 0, api.ErrLine},
		{one, get, 0, api.ErrVersion},
		{one, text("HTTP/1.1 20 OK"), 0, api.ErrForm},
		{one, text("HTTP/1.1 100") + text("HTTP/1.1 600"), 1, api.ErrForm},
		{one, text("HTTP/1.1 100", "content-length: x"), 0, api.ErrLength},
		{one, text("HTTP/1.1 200", "content-length: 70000"), 0, api.ErrLarge},
		{responses("HEAD"), text("HTTP/1.1 200", "transfer-encoding: gzip"), 0, api.ErrCoding},
		{two, five + "abcde" + text("HTTP/1.1 200", "content-length: 1", "transfer-encoding: chunked"), 3, api.ErrBoth},
		{two, coded + "1\r\nab", 2, api.ErrChunk},
	} {
		got := read(t, c.p, c.s)
		if len(got.events) != c.n || got.err != c.want || len(got.last) != 0 || got.lastErr != c.want {
			t.Errorf("%q for %q: %v; want %d events, %v", c.s, c.p.methods, got, c.n, c.want)
		}
		if got := read(t, c.p, c.s, "", text("GET / HTTP/1.1", "host: b"), "\r\n"); len(got.events) != c.n || got.err != c.want {
			t.Errorf("%q for %q, and more: %v; want %d events, %v", c.s, c.p.methods, got, c.n, c.want)
		}
		compareCuts(t, c.p, c.s)
	}
}

func TestEventsComeAtOnce(t *testing.T) { // P8.1
	for _, c := range []struct {
		p     side
		parts []string
		want  []string // the kinds of the events of each part
	}{
		{requests, []string{"GET / HTTP/1.1\r\nhost: a\r\n\r", "\n", "G"}, []string{"", "13", ""}},
		{requests, []string{text("GET / HTTP/1.1", "host: a", "content-length: 3"), "a", "b", "c", ""}, []string{"1", "2", "2", "23", ""}},
		{requests, []string{text("GET / HTTP/1.1", "host: a", "content-length: 3") + "ab", "cGET"}, []string{"12", "23"}},
		{requests, []string{chunkedHead + "1\r\na\r\n1\r\nb\r\n2", "\r\nc", "", "d\r", "\n", "0\r\n\r", "\n"}, []string{"12", "2", "", "2", "", "", "3"}},
		{requests, []string{chunkedHead + "1\r\na\r\n0\r\n\r\n" + chunkedHead + "1\r\na\r\n0\r\n\r\n" + posted("b") + posted("")}, []string{"12312312313"}},
		{responses("GET", "GET"), []string{text("HTTP/1.1 100"), text("HTTP/1.1 204"), text("HTTP/1.1 200"), "H", "TTP"}, []string{"1", "13", "1", "2", "2"}},
		{responses("HEAD", "GET"), []string{text("HTTP/1.1 200") + text("HTTP/1.1 200") + "a"}, []string{"1312"}},
	} {
		d := c.p.open()
		for i, part := range c.parts {
			events, err := d.Write([]byte(part))
			kinds := ""
			for _, e := range events {
				kinds += fmt.Sprint(e.Kind)
			}
			if kinds != c.want[i] || err != nil {
				t.Errorf("part %d of %q: %v, %v; want the kinds %s", i, c.parts, events, err, c.want[i])
			}
		}
	}
}

func TestLimitOfHeads(t *testing.T) { // P8.1, P8.2
	get, interim := text("GET / HTTP/1.1", "host: a"), text("HTTP/1.1 100")
	bodiless, final := text("HTTP/1.1 204"), text("HTTP/1.1 200")
	many := responses(slices.Repeat([]string{"GET"}, 100)...)
	exact := responses(slices.Repeat([]string{"GET"}, 64)...)
	for _, c := range []struct {
		p             side
		before, after string
		n             int
		err, lastErr  error
	}{
		{requests, repeat(get, 63), get, 128, nil, nil},
		{requests, repeat(get, 64), "", 128, nil, nil},
		{requests, repeat(get, 64), get[:len(get)-1], 128, nil, api.ErrEnd},
		{requests, repeat(get, 64), get, 128, api.ErrLarge, api.ErrLarge},
		{requests, repeat(get, 64), get + get, 128, api.ErrLarge, api.ErrLarge},
		{requests, repeat(posted("a"), 64), posted("a"), 192, api.ErrLarge, api.ErrLarge},
		// The errors of the head come before this one, those of the frame after it.
		{requests, repeat(get, 64), text("GET / HTTP/1.1"), 128, api.ErrHost, api.ErrHost},
		{requests, repeat(get, 64), "\r\n", 128, api.ErrLine, api.ErrLine},
		{requests, repeat(get, 64), text("GET / HTTP/1.1", "host: a", "content-length: x"), 128, api.ErrLarge, api.ErrLarge},
		// A response 1xx counts.
		{many, repeat(bodiless, 64), "", 128, nil, nil},
		{many, repeat(bodiless, 64), bodiless, 128, api.ErrLarge, api.ErrLarge},
		{many, repeat(bodiless, 64), interim, 128, api.ErrLarge, api.ErrLarge},
		{many, repeat(interim, 64), "", 64, nil, nil},
		{many, repeat(interim, 64), interim, 64, api.ErrLarge, api.ErrLarge},
		{many, repeat(interim, 64), text("HTTP/1.1 99"), 64, api.ErrForm, api.ErrForm},
		{many, repeat(interim, 63), final + final, 65, nil, nil},
		{many, repeat(interim, 63) + bodiless, "HTTP", 65, nil, api.ErrEnd},
		{responses("GET"), repeat(interim, 63) + bodiless, "H", 65, api.ErrState, api.ErrState},
		// Where all methods are used up, nothing else counts.
		{exact, repeat(bodiless, 64), "H", 128, api.ErrState, api.ErrState},
		{exact, repeat(bodiless, 64), bodiless, 128, api.ErrState, api.ErrState},
	} {
		for _, parts := range [][]string{{c.before + c.after}, {c.before, c.after}} {
			got := read(t, c.p, parts...)
			if len(got.events) != c.n || got.err != c.err || got.lastErr != c.lastErr {
				t.Errorf("%.60q.. and %q in %d parts: %d events, %v, %v; want %d, %v, %v", c.before, c.after, len(parts), len(got.events), got.err, got.lastErr, c.n, c.err, c.lastErr)
			}
		}
		compare(t, c.p, c.before+c.after)
	}
}

// headOf returns the head of a request of n bytes; n is large.
func headOf(n int) string {
	s := text("GET / HTTP/1.1", "host:a", repeat("b:"+repeat("c", 1596)+"\r\n", 4)+"d:")
	return strings.TrimSuffix(s, "\r\n\r\n") + repeat("e", n-len(s)) + "\r\n\r\n"
}

func TestLimitOfBytesOfHeads(t *testing.T) { // P8.1, P8.2
	for n := 8190; n <= 8195; n++ {
		for _, before := range []string{"", posted("a")} {
			got := read(t, requests, before+headOf(n)+"G")
			events := len(read(t, requests, before).events)
			if ok := n <= 8192; ok && (len(got.events) != events+2 || got.err != nil) || !ok && (len(got.events) != events || got.err != api.ErrLarge) {
				t.Errorf("a head of %d bytes: %d events, %v", n, len(got.events), got.err)
			}
			compare(t, requests, before+headOf(n)+"G")
		}
	}
	for _, s := range []string{"a", "\r", "\n", "\x00", " ", ":", "a: b\r\n", "\r\n\r"} {
		// Nothing is refused before a head could not be complete any more.
		long := "G" + repeat(s, 8192)
		if got := read(t, requests, long[:8191]); len(got.events) != 0 || got.err != nil || got.lastErr != api.ErrEnd {
			t.Errorf("8191 bytes of %q: %v", s, got)
		}
		if got := read(t, requests, long[:8191], long[8191:8192]); len(got.events) != 0 || got.err != api.ErrLarge {
			t.Errorf("8192 bytes of %q: %v", s, got)
		}
		compare(t, requests, long[:8192])
		compare(t, responses("GET"), long[:8192])
	}
}

func TestLimitOfBodies(t *testing.T) { // P8.1, P8.2
	body := repeat("b", 65536)
	for _, s := range []string{
		posted(body),
		posted(body) + "x",
		posted(body)[1:],
		text("POST / HTTP/1.1", "host: a", "content-length: 65537") + body,
		chunkedHead + "10000\r\n" + body + "\r\n0\r\n\r\n" + posted("a"),
		chunkedHead + "10000\r\n" + body + "\r\n1\r\na\r\n0\r\n\r\n",
		chunkedHead + "FFFF\r\n" + body[1:] + "\r\n1\r\na\r\n0\r\n\r\n",
		// The limit is that of each body.
		chunkedHead + "8001\r\n" + body[:32769] + "\r\n0\r\n\r\n" + chunkedHead + "8001\r\n" + body[:32769] + "\r\n0\r\n\r\n",
	} {
		compare(t, requests, s)
	}
	// A body that lasts until Close has none.
	for _, n := range []int{65536, 65537, 1 << 18} {
		s := text("HTTP/1.1 200 OK") + repeat("b", n)
		got := read(t, responses("GET"), s)
		if want := (outcome{[]conn.Event{response(200), data(repeat("b", n))}, nil, []conn.Event{end()}, nil}); !same(got, want) {
			t.Errorf("a body of %d bytes: %.400v", n, got)
		}
		compare(t, responses("GET"), s)
	}
}

func TestErrorsStay(t *testing.T) { // P8.1
	for _, c := range []struct {
		p    side
		s    string
		want error
	}{
		{requests, "\r\n", api.ErrLine},
		{requests, chunkedHead + "1\r\nab", api.ErrChunk},
		{requests, chunkedHead + "0\r\na: b\n", api.ErrTrailer},
		{responses(), "H", api.ErrState},
		{responses("GET"), text("HTTP/1.1 200", "content-length: x"), api.ErrLength},
	} {
		d := c.p.open()
		if _, err := d.Write([]byte(c.s)); err != c.want {
			t.Errorf("%q: %v", c.s, err)
		}
		for _, s := range []string{"", "x", "\r\n", posted("a"), text("HTTP/1.1 200 OK"), "0\r\n\r\n"} {
			if list, err := d.Write([]byte(s)); len(list) != 0 || err != c.want {
				t.Errorf("Write(%q) after %q: %v, %v", s, c.s, list, err)
			}
		}
		stays(t, d, c.want)
	}
}

func TestClose(t *testing.T) { // P8.1
	for _, c := range []struct {
		p    side
		s    string
		want string // the kinds of the events
		err  error
	}{
		{requests, "", "", nil},
		{requests, "G", "", api.ErrEnd},
		{requests, posted("a"), "", nil},
		{requests, posted("ab")[:len(posted("ab"))-1], "", api.ErrEnd},
		{requests, text("POST / HTTP/1.1", "host: a", "content-length: 1"), "", api.ErrEnd},
		{requests, chunkedHead, "", api.ErrEnd},
		{requests, chunkedHead + "0\r\n\r\n", "", nil},
		{responses(), "", "", nil},
		{responses("GET"), "", "", nil},
		{responses("GET", "GET"), text("HTTP/1.1 204"), "", nil},
		{responses("GET"), text("HTTP/1.1 100"), "", nil},
		{responses("GET"), "H", "", api.ErrEnd},
		{responses("GET"), text("HTTP/1.1 200"), "3", nil},
		{responses("GET", "GET"), text("HTTP/1.1 200") + "a", "3", nil},
		{responses("GET"), text("HTTP/1.1 200", "content-length: 1"), "", api.ErrEnd},
		{responses("GET"), text("HTTP/1.1 200", "transfer-encoding: chunked") + "0\r\n", "", api.ErrEnd},
		{responses("HEAD"), text("HTTP/1.1 200"), "", nil},
	} {
		d := c.p.open()
		d.Write([]byte(c.s))
		list, err := d.Close()
		kinds := ""
		for _, e := range list {
			kinds += fmt.Sprint(e.Kind)
		}
		if kinds != c.want || err != c.err {
			t.Errorf("Close after %q: %v, %v; want the kinds %q, %v", c.s, list, err, c.want, c.err)
		}
		stays(t, d, c.err)
	}
}

func TestNilConn(t *testing.T) { // P8.1, P1
	var d *conn.Conn
	for range 2 {
		for _, s := range []string{"", "G", posted("a")} {
			if list, err := d.Write([]byte(s)); len(list) != 0 || err != api.ErrNone {
				t.Errorf("Write(%q) = %v, %v", s, list, err)
			}
		}
		if list, err := d.Close(); len(list) != 0 || err != api.ErrNone {
			t.Errorf("Close = %v, %v", list, err)
		}
	}
}

func TestConnsAreSeparate(t *testing.T) { // P8.1
	a, b := conn.Requests(), conn.Requests()
	s := chunkedHead + "1\r\nx\r\n0\r\ny: z\r\n\r\n"
	var one, two []conn.Event
	for i := range len(s) {
		events, _ := a.Write([]byte(s[i : i+1]))
		one = append(one, events...)
		events, _ = b.Write([]byte(strings.Replace(s, "x", "w", 1)[i : i+1]))
		two = append(two, events...)
	}
	coded := request("PUT", "/a", "transfer-encoding", "Chunked")
	if show(one) != show([]conn.Event{coded, data("x"), end("y", "z")}) || show(two) != show([]conn.Event{coded, data("w"), end("y", "z")}) {
		t.Errorf("the events are %s and %s", show(one), show(two))
	}
}

func TestAllShortConnections(t *testing.T) { // P8.1, P8.2, P8.3
	coded := text("HTTP/1.1 200", "transfer-encoding: chunked")
	samples.Strings(4, []string{getText, posted("a"), chunkedHead, "1\r\na\r\n", "0\r\n\r\n", "0\r\nb:c\r\n\r\n", "\r\n", "G"}, func(s string) {
		compare(t, requests, s)
	})
	for _, p := range []side{responses("GET", "HEAD", "GET"), responses("HEAD", "GET")} {
		samples.Strings(4, []string{text("HTTP/1.1 100"), text("HTTP/1.1 204"), text("HTTP/1.1 200"), text("HTTP/1.1 200", "content-length: 1"), coded, "1\r\na\r\n", "0\r\n\r\n", "H"}, func(s string) {
			compare(t, p, s)
		})
	}
}

func TestEachByteAtEachPlace(t *testing.T) { // P8.1, P8.2, P8.3
	for _, s := range []string{posted("ab") + "G", chunkedHead[:len(chunkedHead)-2] + "\r\n1\r\na\r\n0\r\n\r\nG"} {
		samples.Edits(s, func(s string) { compare(t, requests, s) })
	}
	s := text("HTTP/1.1 100") + text("HTTP/1.1 200", "content-length:1") + "a"
	samples.Edits(s, func(s string) { compare(t, responses("GET"), s) })
}

// messages are some of requests and of responses.
func messages(p side) []string {
	if !p.responses {
		return []string{getText, posted(""), posted("abc"), posted("a\r\n\r\n"), chunkedHead + "0\r\n\r\n", chunkedHead + "1;x\r\n\n\r\n2\r\nab\r\n0\r\nB:c\r\n\r\n"}
	}
	return []string{
		text("HTTP/1.1 100 Continue"),
		text("HTTP/1.1 204"),
		text("HTTP/1.1 304", "content-length: 3"),
		text("HTTP/1.1 404 Not Found", "content-length: 3") + "abc",
		text("HTTP/1.1 200 OK", "Transfer-Encoding: chunked") + "1\r\na\r\n0\r\nB: c\r\n\r\n",
		text("HTTP/1.1 200 OK", "a: b", "content-length: 3"),
		text("HTTP/1.1 299 "),
	}
}

func TestRandomConnections(t *testing.T) { // P8.1, P8.2, P8.3
	random := rand.New(rand.NewSource(8))
	for range 10000 {
		p := requests
		if random.Intn(2) == 0 {
			p = responses()
			for range random.Intn(6) {
				p.methods = append(p.methods, some(random, "GET", "HEAD", "POST"))
			}
		}
		s := ""
		for range 1 + random.Intn(5) {
			s += some(random, messages(p)...)
		}
		for _, s := range []string{s, samples.Spoil(random, s, "\r", "\n", "\r\n", "\x00", " ", ":", "0", "1", "a", "A", "\x80", s)} {
			want := referenceRead(p, s)
			for range 3 {
				parts := samples.Cuts(random, s)
				if got := read(t, p, parts...); !same(got, want) {
					t.Errorf("%.800q in parts: %.400v; want %.400v", parts, got, want)
				}
			}
			compare(t, p, s)
		}
	}
}

func FuzzConnections(f *testing.F) { // P8.1, P8.2, P8.3
	for _, s := range messages(requests) {
		f.Add(s, "", 9)
	}
	for _, s := range messages(responses()) {
		f.Add(s, "GET HEAD GET", 9)
	}
	f.Fuzz(func(t *testing.T, s, methods string, at int) {
		for _, p := range []side{requests, responses(strings.Fields(methods)...)} {
			for _, start := range append(messages(p), "") {
				compare(t, p, start+s)
				if 0 <= at && at <= len(s) {
					if got, want := read(t, p, start+s[:at], s[at:]), referenceRead(p, start+s); !same(got, want) {
						t.Errorf("%.800q, cut at %d: %.400v; want %.400v", start+s, at, got, want)
					}
				}
			}
		}
	})
}

func TestArgumentsAndResultsAreSeparate(t *testing.T) { // P1 with rule 3
	methods := []string{"HEAD", "GET"}
	d := conn.Responses(methods)
	methods[0], methods[1] = "GET", "HEAD"
	var list []conn.Event
	for _, s := range []string{text("HTTP/1.1 200", "content-length: 3") + "HTTP/1.1 2", "00\r\nTransfer-En", "coding: chunked\r\n\r\n2\r\nab", "\r\n0\r\nc: d\r\n", "\r\n"} {
		b := []byte(s)
		events, _ := d.Write(b)
		clear(b)
		list = append(list, events...)
	}
	want := []conn.Event{response(200, "content-length", "3"), end(), response(200, "transfer-encoding", "chunked"), data("ab"), end("c", "d")}
	if show(list) != show(want) {
		t.Errorf("the events are %s", show(list))
	}

	d = conn.Requests()
	first, _ := d.Write([]byte(posted("abcd")[:len(posted("abcd"))-2]))
	clear(first[0].Request.Fields)
	clear(first[1].Data[:cap(first[1].Data)])
	b := []byte("cd" + getText)
	second, err := d.Write(b)
	clear(b)
	if show(second) != show([]conn.Event{data("cd"), end(), get, end()}) || err != nil {
		t.Errorf("the events share memory: %s, %v", show(second), err)
	}
}

func TestLongInputs(t *testing.T) { // P1
	const n = 1 << 20
	for _, s := range []string{"\r\n", "G", "\x00", getText, posted("a"), text("HTTP/1.1 100"), text("HTTP/1.1 204"), "1\r\na\r\n"} {
		long := repeat(s, n/len(s))
		for _, start := range []string{"", chunkedHead, text("HTTP/1.1 200"), text("HTTP/1.1 200", "transfer-encoding: chunked")} {
			for _, p := range []side{requests, responses(slices.Repeat([]string{"GET"}, n)...)} {
				got := read(t, p, start+long)
				if ok := p.responses && start == text("HTTP/1.1 200"); (got.err == nil) != ok || len(got.events) > 200 {
					t.Errorf("%q and many times %q: %d events, %v", start, s, len(got.events), got.err)
				}
			}
		}
	}
	// A connection costs no more when its bytes come one by one.
	d := conn.Responses([]string{"GET"})
	for i, c := range []byte(text("HTTP/1.1 200") + repeat("a", n)) {
		if _, err := d.Write([]byte{c}); err != nil {
			t.Fatalf("byte %d: %v", i, err)
		}
	}
	e := coded
	e.Request.Fields = append(slices.Clone(e.Request.Fields), of("b", repeat("c", n))...)
	if b, err := conn.Format([]conn.Event{e}); len(b) != 0 || err != api.ErrLarge {
		t.Errorf("Format of a long head: %d bytes, %v", len(b), err)
	}
	list := append([]conn.Event{coded}, slices.Repeat([]conn.Event{data("a")}, n)...)
	if b, err := conn.Format(list); len(b) != len(codedText)+6*n || err != nil {
		t.Errorf("Format of many Data: %d bytes, %v", len(b), err)
	}
}
