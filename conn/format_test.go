package conn_test

import (
	"fmt"
	"math/rand"
	"slices"
	"testing"

	"quayside/api"
	"quayside/conn"
	"quayside/field"
	"quayside/head"
	"quayside/samples"
)

// compareFormat checks Format against reference_test.go.
func compareFormat(t *testing.T, list []conn.Event) {
	t.Helper()
	kept := fmt.Sprint(list)
	b, err := conn.Format(list)
	if want, e := referenceFormat(list); string(b) != want || err != e {
		t.Errorf("Format(%.800v) = %.400q, %v; want %.400q, %v", list, b, err, want, e)
	}
	if fmt.Sprint(list) != kept {
		t.Errorf("the events %.400v were changed", kept)
	}
}

var (
	coding = []string{"transfer-encoding", "chunked"}
	get    = request("GET", "/")
	three  = request("PUT", "/", "content-length", "3")
	coded  = request("PUT", "/", coding...)
)

const (
	getText   = "GET / HTTP/1.1\r\nhost: a\r\n\r\n"
	threeText = "PUT / HTTP/1.1\r\nhost: a\r\ncontent-length: 3\r\n\r\n"
	codedText = "PUT / HTTP/1.1\r\nhost: a\r\ntransfer-encoding: chunked\r\n\r\n"
)

func TestFormat(t *testing.T) { // P8.1
	type events = []conn.Event
	for _, c := range []struct {
		list events
		want string
	}{
		{nil, ""},
		{events{}, ""},
		{events{get}, getText},
		{events{get, end()}, getText},
		{events{get, end(), get, end()}, getText + getText},
		{events{get, data(""), data(""), end()}, getText},
		{events{three}, threeText},
		{events{three, data("ab")}, threeText + "ab"},
		{events{three, data("abc"), data(""), end()}, threeText + "abc"},
		{events{three, data(""), data("a"), data("\r\n"), end(), get, end()}, threeText + "a\r\n" + getText},
		{events{request("PUT", "/", "content-length", "0"), end()}, "PUT / HTTP/1.1\r\nhost: a\r\ncontent-length: 0\r\n\r\n"},
		{events{coded}, codedText},
		{events{coded, end()}, codedText + "0\r\n\r\n"},
		{events{coded, data("")}, codedText},
		{events{coded, data("abc"), data(""), data("0123456789"), end("B", "c", "b", "")}, codedText + "3\r\nabc\r\na\r\n0123456789\r\n0\r\nb: c\r\nb: \r\n\r\n"},
		{events{coded, data("a"), end(), three, data("abc"), end()}, codedText + "1\r\na\r\n0\r\n\r\n" + threeText + "abc"},
		// What is written is canonical.
		{events{{Kind: conn.Head, Request: head.Request{Method: "GET", Target: "/", Fields: of("B", "C", "Host", "A")}}, end()}, "GET / HTTP/1.1\r\nb: C\r\nhost: a\r\n\r\n"},
		{events{request("PUT", "/", "Transfer-Encoding", "Chunked"), end()}, "PUT / HTTP/1.1\r\nhost: a\r\ntransfer-encoding: Chunked\r\n\r\n0\r\n\r\n"},
		{events{response(200), data("ab"), data("c"), end()}, "HTTP/1.1 200 OK\r\n\r\nabc"},
		{events{response(299, "A", "b")}, "HTTP/1.1 299 \r\na: b\r\n\r\n"},
		{events{response(200, "content-length", "1"), data("a"), end(), response(200, coding...), data("a"), end("b", "c")}, "HTTP/1.1 200 OK\r\ncontent-length: 1\r\n\r\naHTTP/1.1 200 OK\r\ntransfer-encoding: chunked\r\n\r\n1\r\na\r\n0\r\nb: c\r\n\r\n"},
		{events{response(204, "content-length", "5"), end(), response(304), data(""), end(), response(200)}, "HTTP/1.1 204 No Content\r\ncontent-length: 5\r\n\r\nHTTP/1.1 304 Not Modified\r\n\r\nHTTP/1.1 200 OK\r\n\r\n"},
		{events{response(100), response(199, coding...), response(200), end()}, "HTTP/1.1 100 Continue\r\n\r\nHTTP/1.1 199 \r\ntransfer-encoding: chunked\r\n\r\nHTTP/1.1 200 OK\r\n\r\n"},
		// Requests and responses may follow each other.
		{events{response(100), get, end(), response(204), end(), get}, "HTTP/1.1 100 Continue\r\n\r\n" + getText + "HTTP/1.1 204 No Content\r\n\r\n" + getText},
		// A Head is that of a request if that has a method.
		{events{{Kind: conn.Head, Request: get.Request, Response: response(100).Response}, end()}, getText},
		{events{{Kind: conn.Head, Request: head.Request{Target: "/"}, Response: response(204).Response}, end()}, "HTTP/1.1 204 No Content\r\n\r\n"},
		// There is no limit for all data of a chunked body, nor for heads.
		{events{coded, data(repeat("x", 65536)), data("y"), end()}, codedText + "10000\r\n" + repeat("x", 65536) + "\r\n1\r\ny\r\n0\r\n\r\n"},
		{slices.Repeat(events{get, end()}, 100), repeat(getText, 100)},
	} {
		if b, err := conn.Format(c.list); string(b) != c.want || err != nil {
			t.Errorf("Format(%.400v) = %.400q, %v; want %.400q", c.list, b, err, c.want)
		}
		compareFormat(t, c.list)
	}
}

func TestFormatRefuses(t *testing.T) { // P8.1
	type events = []conn.Event
	untold, ok := response(200), response(204)
	badHost, badForm := request("GET", "/", "host", "b"), response(99)
	bothLengths := request("PUT", "/", "content-length", "1", "transfer-encoding", "chunked")
	for _, c := range []struct {
		list events
		want error
	}{
		// The errors of lower layers.
		{events{badHost}, api.ErrHost},
		{events{request("get", "/")}, api.ErrMethod},
		{events{request("GET", "a")}, api.ErrTarget},
		{events{request("GET", "/", "b", " c")}, api.ErrField},
		{events{request("GET", "/", "b", repeat("c", 8192))}, api.ErrLarge},
		{events{badForm}, api.ErrForm},
		{events{response(0)}, api.ErrForm},
		{events{{Kind: conn.Head}}, api.ErrForm},
		{events{response(100, "a", "\n")}, api.ErrField},
		{events{request("GET", "/", "content-length", "x")}, api.ErrLength},
		{events{request("GET", "/", "content-length", "65537")}, api.ErrLarge},
		{events{request("GET", "/", "transfer-encoding", "gzip")}, api.ErrCoding},
		{events{bothLengths}, api.ErrBoth},
		{events{response(200, "transfer-encoding", "gzip")}, api.ErrCoding},
		{events{response(100, "content-length", "x")}, api.ErrLength},
		{events{response(204, "content-length", "x")}, api.ErrLength},
		{events{request("GET", "/", "host", "b", "content-length", "x")}, api.ErrHost},
		{events{coded, end("host", "a")}, api.ErrTrailer},
		{events{coded, data("a"), end("b", " c")}, api.ErrTrailer},
		{events{coded, end(slices.Repeat([]string{"a", "b"}, 65)...)}, api.ErrTrailer},
		// A Data or an End outside of a message.
		{events{data("a")}, api.ErrState},
		{events{data("")}, api.ErrState},
		{events{end()}, api.ErrState},
		{events{get, end(), data("a")}, api.ErrState},
		{events{get, end(), data("")}, api.ErrState},
		{events{get, end(), end()}, api.ErrState},
		{events{three, data("abc"), end(), end()}, api.ErrState},
		{events{coded, end(), end("a", "b")}, api.ErrState},
		{events{coded, end(), data("a")}, api.ErrState},
		{events{response(100), data("a")}, api.ErrState},
		{events{response(100), data("")}, api.ErrState},
		{events{response(199), end()}, api.ErrState},
		// A Head in a message.
		{events{get, get}, api.ErrState},
		{events{get, data(""), get}, api.ErrState},
		{events{three, data("abc"), get}, api.ErrState},
		{events{coded, data("a"), coded}, api.ErrState},
		{events{untold, response(100)}, api.ErrState},
		{events{untold, data("a"), untold}, api.ErrState},
		{events{response(100), ok, response(100)}, api.ErrState},
		{events{{Kind: conn.Head, Request: get.Request, Response: response(100).Response}, ok}, api.ErrState},
		// An event after a message that lasts until Close.
		{events{untold, end(), untold}, api.ErrState},
		{events{untold, end(), response(100)}, api.ErrState},
		{events{untold, data("a"), end(), get}, api.ErrState},
		{events{untold, end(), data("a")}, api.ErrState},
		{events{untold, end(), data("")}, api.ErrState},
		{events{untold, end(), end()}, api.ErrState},
		{events{get, end(), response(404), end(), ok}, api.ErrState},
		// Another Kind.
		{events{{}}, api.ErrState},
		{events{{Kind: -1}}, api.ErrState},
		{events{{Kind: 4, Request: get.Request}}, api.ErrState},
		{events{{Kind: 1 << 32}}, api.ErrState},
		{events{coded, {Kind: 4, Data: []byte("a")}}, api.ErrState},
		{events{untold, end(), {Kind: 0}}, api.ErrState},
		// Data where there is no body.
		{events{get, data("a")}, api.ErrState},
		{events{ok, data("a")}, api.ErrState},
		{events{response(304, "content-length", "1"), data("a")}, api.ErrState},
		{events{response(204, coding...), data(""), data("a")}, api.ErrState},
		// The Length is exceeded, or not reached.
		{events{three, data("abcd")}, api.ErrLength},
		{events{three, data("ab"), data("cd")}, api.ErrLength},
		{events{three, data("abc"), data("d")}, api.ErrLength},
		{events{three, data("abc"), end(), three, data("abcd")}, api.ErrLength},
		{events{request("PUT", "/", "content-length", "0"), data("a")}, api.ErrLength},
		{events{three, end()}, api.ErrLength},
		{events{three, data(""), end()}, api.ErrLength},
		{events{three, data("ab"), end()}, api.ErrLength},
		{events{response(200, "content-length", "1"), end()}, api.ErrLength},
		// Trailers of another body than a chunked one.
		{events{get, end("a", "b")}, api.ErrTrailer},
		{events{ok, end("a", "b")}, api.ErrTrailer},
		{events{three, data("abc"), end("a", "b")}, api.ErrTrailer},
		{events{untold, data("abc"), end("a", "b")}, api.ErrTrailer},
		{events{request("PUT", "/", "content-length", "0"), end("", "")}, api.ErrTrailer},
		// Of the errors of one event, the one that the chapter states first counts.
		{events{get, badHost}, api.ErrHost},
		{events{get, bothLengths}, api.ErrBoth},
		{events{untold, end(), badForm}, api.ErrForm},
		{events{untold, end(), bothLengths}, api.ErrBoth},
		{events{end("host", "a")}, api.ErrState},
		{events{untold, end(), end("a", "b")}, api.ErrState},
		{events{three, end("a", "b")}, api.ErrLength},
		// Of the errors of several events, the first one counts.
		{events{end(), badHost}, api.ErrState},
		{events{badHost, end(), badForm}, api.ErrHost},
		{events{three, data("abcd"), badForm}, api.ErrLength},
		{events{get, end("a", "b"), {}}, api.ErrTrailer},
		{events{get, data("a"), end("a", "b")}, api.ErrState},
	} {
		if b, err := conn.Format(c.list); len(b) != 0 || err != c.want {
			t.Errorf("Format(%.400v) = %.400q, %v; want %v", c.list, b, err, c.want)
		}
		compareFormat(t, c.list)
		before := append([]conn.Event{coded, data("x"), end("y", "z")}, c.list...)
		if b, err := conn.Format(before); len(b) != 0 || err != c.want {
			t.Errorf("Format(%.400v) = %.400q, %v; want %v", before, b, err, c.want)
		}
	}
}

func TestAllShortListsOfEvents(t *testing.T) { // P8.1
	samples.Lists(5, []conn.Event{get, request("PUT", "/", "content-length", "1"), coded, data("a"), data(""), end(), end("a", "b"), response(200)}, func(list []conn.Event) {
		compareFormat(t, list)
	})
	samples.Lists(4, []conn.Event{response(100), response(200), response(304), response(200, "content-length", "2"), response(200, coding...), data("a"), data("bc"), end(), end("host", "b"), response(99), {}, three}, func(list []conn.Event) {
		compareFormat(t, list)
	})
}

// someEvents returns events of which most stand where they may.
func someEvents(random *rand.Rand) []conn.Event {
	var list []conn.Event
	for range random.Intn(4) {
		n := random.Intn(6)
		e := request(some(random, "GET", "PUT", "HEAD"), "/")
		if random.Intn(3) == 0 {
			e = response([]int{100, 200, 204, 404, 600}[random.Intn(5)])
		}
		x := of(some(random, "content-length", "transfer-encoding", "Transfer-Encoding", "b"), some(random, "chunked", fmt.Sprint(n)))
		e.Request.Fields, e.Response.Fields = slices.Concat(e.Request.Fields, x), slices.Concat(e.Response.Fields, x)
		list = append(list, e)
		for _, part := range samples.Cuts(random, repeat("d", n)) {
			list = append(list, data(part))
		}
		list = append(list, end(some(random, "a", "trailer", "B"), some(random, "b", "", " c")))
		if random.Intn(3) > 0 {
			list[len(list)-1].Trailers = nil
		}
		if random.Intn(5) == 0 {
			at := random.Intn(len(list))
			list = slices.Delete(list, at, at+1)
		}
	}
	return list
}

func TestRandomListsOfEvents(t *testing.T) { // P8.1
	random := rand.New(rand.NewSource(9))
	for range 50000 {
		compareFormat(t, someEvents(random))
	}
}

func TestWhatIsWrittenIsRead(t *testing.T) { // P8.3, and P2
	random := rand.New(rand.NewSource(10))
	for range 5000 {
		var list []conn.Event
		for i := range random.Intn(8) {
			body := repeat(some(random, "", "a", "\r\n", "0\r\n\r\n", "\x00\xff", getText), random.Intn(20))
			switch random.Intn(3) {
			case 0:
				list = append(list, request("GET", fmt.Sprint("/", i), "b", "c", "b", ""), end())
			case 1:
				list = append(list, request("HEAD", "/", "content-length", fmt.Sprint(len(body), ", ", len(body))))
				list = append(list, cutData(random, body)...)
				list = append(list, end())
			case 2:
				list = append(list, request("PUT", "/", "x", "", "transfer-encoding", some(random, "chunked", "Chunked, ")+","))
				list = append(list, cutData(random, body)...)
				list = append(list, end(slices.Repeat([]string{"b", some(random, "", "c: d")}, random.Intn(3))...))
			}
		}
		b, err := conn.Format(list)
		if err != nil {
			t.Fatalf("Format(%.400v): %v", list, err)
		}
		for _, parts := range [][]string{{string(b)}, samples.Cuts(random, string(b))} {
			if got := read(t, requests, parts...); !same(got, outcome{events: list}) {
				t.Errorf("%.400s is read as %.400v", show(list), got)
			}
		}
	}
}

// cutData returns Data events that together have the data s.
func cutData(random *rand.Rand, s string) []conn.Event {
	var list []conn.Event
	for _, part := range samples.Cuts(random, s) {
		if part != "" {
			list = append(list, data(part))
		}
	}
	return list
}

func FuzzFormat(f *testing.F) { // P8.1
	f.Add("GET", "/", 200, "host", "a", "content-length", "3", "abc", "x", "y", 1, 2, 3)
	f.Add("", "", 204, "Transfer-Encoding", "chunked", "b", "", "", "host", "a", 1, 3, 3)
	f.Fuzz(func(t *testing.T, method, target string, status int, name, value, name2, value2, body, name3, value3 string, one, two, three int) {
		e := conn.Event{
			Request:  head.Request{Method: method, Target: target, Fields: of(name, value, name2, value2)},
			Response: head.Response{Status: status, Fields: of(name2, value2)},
			Data:     []byte(body),
			Trailers: of(name3, value3),
		}
		var list []conn.Event
		for _, kind := range []int{1, one, two, three, 1} {
			e.Kind = kind
			list = append(list, e)
			compareFormat(t, list)
		}
	})
}

func TestFormatKeepsItsArguments(t *testing.T) { // P1 with rule 3
	f := append(make(field.Fields, 0, 9), of("Host", "A", "Transfer-Encoding", "Chunked")...)
	trailers := append(make(field.Fields, 0, 9), of("B", "c")...)
	body := append(make([]byte, 0, 9), "abc"...)
	list := []conn.Event{{Kind: conn.Head, Request: head.Request{Method: "PUT", Target: "/", Fields: f}}, {Kind: conn.Data, Data: body}, {Kind: conn.End, Trailers: trailers}}
	first, err := conn.Format(list)
	second, err2 := conn.Format(list)
	if !slices.Equal(f[:9], append(of("Host", "A", "Transfer-Encoding", "Chunked"), make(field.Fields, 7)...)) || !slices.Equal(trailers[:9], append(of("B", "c"), make(field.Fields, 8)...)) || string(body[:9]) != "abc\x00\x00\x00\x00\x00\x00" {
		t.Errorf("the arguments were changed to %q, %q, %q", f[:9], trailers[:9], body[:9])
	}
	clear(f)
	clear(body)
	clear(trailers)
	clear(first[:cap(first)])
	if want := "PUT / HTTP/1.1\r\nhost: a\r\ntransfer-encoding: Chunked\r\n\r\n3\r\nabc\r\n0\r\nb: c\r\n\r\n"; string(second) != want || err != nil || err2 != nil {
		t.Errorf("what is written shares memory: %q, %v, %v", second, err, err2)
	}
	raw, _ := conn.Format([]conn.Event{response(200), {Kind: conn.Data, Data: append(body[:0], "abc"...)}})
	clear(body)
	if string(raw) != "HTTP/1.1 200 OK\r\n\r\nabc" {
		t.Errorf("what is written shares memory: %q", raw)
	}
}
