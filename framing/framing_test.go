package framing_test

import (
	"errors"
	"fmt"
	"math"
	"math/rand"
	"slices"
	"strings"
	"testing"

	"quayside/api"
	"quayside/field"
	"quayside/framing"
	"quayside/head"
	"quayside/samples"
)

const (
	lengthName = "content-length"
	codingName = "transfer-encoding"
)

// The frames without a length.
var (
	none    = framing.Frame{Kind: framing.None}
	chunked = framing.Frame{Kind: framing.Chunked}
	untold  = framing.Frame{Kind: framing.Close}
)

func length(n int) framing.Frame {
	return framing.Frame{Kind: framing.Length, Length: n}
}

// of returns the fields with the names and values given in turn.
var of = samples.Fields

// lengths returns one field content-length for each value.
func lengths(values ...string) field.Fields {
	return named(lengthName, values)
}

// codings returns one field transfer-encoding for each value.
func codings(values ...string) field.Fields {
	return named(codingName, values)
}

func named(name string, values []string) field.Fields {
	var f field.Fields
	for _, value := range values {
		f = append(f, field.Field{Name: name, Value: value})
	}
	return f
}

func both(a, b field.Fields) field.Fields {
	return slices.Concat(a, b)
}

func request(f field.Fields) head.Request {
	return head.Request{Method: "POST", Target: "/", Fields: f}
}

// methods and statuses are some for which a response has no body, and some
// that are near them.
var (
	methods  = []string{"GET", "HEAD", "head", "HEADS", "CONNECT", ""}
	statuses = []int{99, 100, 101, 199, 200, 203, 204, 205, 303, 304, 305, 404, 0, -100, -204}
)

// compare checks all functions but Name against reference_test.go, and P6.2
// and P6.3.
func compare(t *testing.T, f field.Fields) {
	t.Helper()
	kept := slices.Clone(f)
	compareRequest(t, f)
	for _, method := range methods[:3] {
		for _, status := range []int{200, 204} {
			compareResponse(t, method, status, f)
		}
	}
	if !slices.Equal(f, kept) {
		t.Errorf("the fields %.200q were changed", kept)
	}
}

func compareRequest(t *testing.T, f field.Fields) {
	t.Helper()
	r := request(f)
	frame, err := framing.OfRequest(r)
	if want, e := referenceOfRequest(f); frame != want || err != e {
		t.Errorf("OfRequest of %.200q = %v, %v; want %v, %v", f, frame, err, want, e)
	}
	byLength, byCoding := framing.Lenient(r, true), framing.Lenient(r, false)
	if x, y := referenceLenient(f); byLength != x || byCoding != y {
		t.Errorf("Lenient of %.200q = %v, %v; want %v, %v", f, byLength, byCoding, x, y)
	}
	if got := framing.Ambiguous(r); got != (byLength != byCoding) {
		t.Errorf("Ambiguous of %.200q = %v; but it is read as %v, %v", f, got, byLength, byCoding)
	}
	if err == nil && (byLength != frame || byCoding != frame) {
		t.Errorf("%.200q has the frame %v, but a careless reader takes it for %v, %v", f, frame, byLength, byCoding)
	}
}

func compareResponse(t *testing.T, method string, status int, f field.Fields) {
	t.Helper()
	frame, err := framing.OfResponse(method, head.Response{Status: status, Fields: f})
	if want, e := referenceOfResponse(method, status, f); frame != want || err != e {
		t.Errorf("OfResponse(%q, %d with %.200q) = %v, %v; want %v, %v", method, status, f, frame, err, want, e)
	}
	bodiless := method == "HEAD" || status/100 == 1 && status > 0 || status == 204 || status == 304
	if bodiless && err == nil && frame != none {
		t.Errorf("OfResponse(%q, %d with %.200q) = %v; it has no body", method, status, f, frame)
	}
}

func TestKinds(t *testing.T) { // P6.1
	if framing.None != 1 || framing.Length != 2 || framing.Chunked != 3 || framing.Close != 4 {
		t.Error("the kinds are not 1 to 4")
	}
}

func TestOfRequest(t *testing.T) { // P6.1, P6.2
	for _, c := range []struct {
		f    field.Fields
		want framing.Frame
	}{
		{nil, none},
		{field.Fields{}, none},
		{of("host", "a", "a", "content-length: 5", "b", "chunked"), none},
		{of("content-lengths", "x", "content-length ", "5", "content_length", "5", "", "5"), none},
		{of("transfer-encodings", "gzip", "transfer-encoding:", "chunked", "te", "chunked", "coding", "chunked"), none},
		{lengths("5"), length(5)},
		{of("host", "a", "Content-Length", "5", "b", "c"), length(5)},
		{of("CONTENT-LENGTH", "5", "b", "c", "content-length", "5"), length(5)},
		{lengths("5, 5"), length(5)},
		{lengths("5", "5"), length(5)},
		{lengths("5,5,\t5 ,5"), length(5)},
		{lengths("", "5, 5", ",", "5"), length(5)},
		{lengths(",,5,, ,"), length(5)},
		{lengths(" 5\t"), length(5)},
		{lengths("0"), length(0)},
		{lengths("00", "00"), length(0)},
		{lengths("000000000000005"), length(5)},
		{lengths("000000000000000, 000000000000000"), length(0)},
		{lengths("65535"), length(65535)},
		{lengths("65536"), length(65536)},
		{lengths("000000000065536"), length(65536)},
		{codings("chunked"), chunked},
		{codings("Chunked"), chunked},
		{codings("CHUNKED"), chunked},
		{codings("cHuNkEd"), chunked},
		{codings(" chunked\t"), chunked},
		{codings(",chunked, ,"), chunked},
		{codings("", "chunked", " ,"), chunked},
		{of("host", "a", "Transfer-Encoding", "chunked", "a", "b"), chunked},
		{of("TRANSFER-ENCODING", "", "a", "b", "transfer-encoding", "chunked"), chunked},
	} {
		if frame, err := framing.OfRequest(request(c.f)); frame != c.want || err != nil {
			t.Errorf("OfRequest of %q = %v, %v; want %v", c.f, frame, err, c.want)
		}
		// The rest of a request does not matter.
		for _, r := range []head.Request{{Fields: c.f}, {Method: "HEAD", Target: "*", Fields: c.f}, {Method: "GET", Target: "/5", Fields: c.f}} {
			if frame, err := framing.OfRequest(r); frame != c.want || err != nil {
				t.Errorf("OfRequest(%q) = %v, %v; want %v", r, frame, err, c.want)
			}
		}
		compare(t, c.f)
	}
}

// refused are fields for which there is no frame, neither for a request nor
// for a response.
var refused = []struct {
	f    field.Fields
	want error
}{
	{both(lengths("5"), codings("chunked")), api.ErrBoth},
	{both(codings("chunked"), lengths("5")), api.ErrBoth},
	{of("CONTENT-length", "5", "a", "b", "transfer-ENCODING", "chunked"), api.ErrBoth},
	{both(lengths("x"), codings("chunked")), api.ErrBoth},
	{both(lengths(""), codings("")), api.ErrBoth},
	{both(lengths("5", "6"), codings("gzip")), api.ErrBoth},
	{both(lengths("65537"), codings("identity")), api.ErrBoth},
	{both(lengths("\""), codings("\x00")), api.ErrBoth},
	{codings(""), api.ErrCoding},
	{codings(" ,\t,"), api.ErrCoding},
	{codings("gzip"), api.ErrCoding},
	{codings("identity"), api.ErrCoding},
	{codings("gzip, chunked"), api.ErrCoding},
	{codings("chunked, gzip"), api.ErrCoding},
	{codings("chunked, chunked"), api.ErrCoding},
	{codings("chunked", "chunked"), api.ErrCoding},
	{codings("chunked", "Chunked"), api.ErrCoding},
	{codings("chunked", "identity"), api.ErrCoding},
	{codings("gzip", "chunked"), api.ErrCoding},
	{codings("chunked;q=1"), api.ErrCoding},
	{codings("chunked;"), api.ErrCoding},
	{codings("chunked ; a"), api.ErrCoding},
	{codings("\"chunked\""), api.ErrCoding},
	{codings("\\chunked"), api.ErrCoding},
	{codings("xchunked"), api.ErrCoding},
	{codings("chunkedx"), api.ErrCoding},
	{codings("chunke"), api.ErrCoding},
	{codings("chunk ed"), api.ErrCoding},
	{codings("\vchunked"), api.ErrCoding},
	{codings("chunked\x00"), api.ErrCoding},
	{codings("chunked\r\n"), api.ErrCoding},
	{codings("chunked", "\n"), api.ErrCoding},
	{codings("chunked", "\""), api.ErrCoding},
	{codings("chunked, \""), api.ErrCoding},
	{codings("chunked\u00a0"), api.ErrCoding},
	{codings("chun\u212aed"), api.ErrCoding}, // the sign of the kelvin is a K for Unicode
	{lengths(""), api.ErrLength},
	{lengths(","), api.ErrLength},
	{lengths("", " ", "\t,"), api.ErrLength},
	{lengths("x"), api.ErrLength},
	{lengths("+5"), api.ErrLength},
	{lengths("-5"), api.ErrLength},
	{lengths("-0"), api.ErrLength},
	{lengths("5.0"), api.ErrLength},
	{lengths("5e0"), api.ErrLength},
	{lengths("0x5"), api.ErrLength},
	{lengths("5_0"), api.ErrLength},
	{lengths("5 5"), api.ErrLength},
	{lengths("5;5"), api.ErrLength},
	{lengths("5;"), api.ErrLength},
	{lengths("\"5\""), api.ErrLength},
	{lengths("\"5"), api.ErrLength},
	{lengths("\"5,5\""), api.ErrLength},
	{lengths("\\5"), api.ErrLength},
	{lengths("5\x00"), api.ErrLength},
	{lengths("5\n"), api.ErrLength},
	{lengths("\v5"), api.ErrLength},
	{lengths("5\u00a0"), api.ErrLength},
	{lengths("\u0665"), api.ErrLength},
	{lengths("\uff15"), api.ErrLength},
	{lengths("5, 6"), api.ErrLength},
	{lengths("5", "6"), api.ErrLength},
	{lengths("5", "05"), api.ErrLength},
	{lengths("0, 00"), api.ErrLength},
	{lengths("5, 5", "6"), api.ErrLength},
	{lengths("5", "5", "5, 5, 6, 5"), api.ErrLength},
	{lengths("5", "x"), api.ErrLength},
	{lengths("x", "5"), api.ErrLength},
	{lengths("x", "x"), api.ErrLength},
	{lengths("5", "\x01"), api.ErrLength},
	{lengths("5", "\""), api.ErrLength},
	{lengths("5, \"\""), api.ErrLength},
	{lengths("65537, 65538"), api.ErrLength},
	{lengths("65537", "x"), api.ErrLength},
	{lengths("65537", "\""), api.ErrLength},
	{lengths("0000000000000005"), api.ErrLength},
	{lengths("1000000000000000"), api.ErrLength},
	{lengths("18446744073709551621"), api.ErrLength}, // 2^64 + 5
	{lengths("65537"), api.ErrLarge},
	{lengths("65537, 65537"), api.ErrLarge},
	{lengths("000000000065537"), api.ErrLarge},
	{lengths("4294967301"), api.ErrLarge}, // 2^32 + 5
	{lengths("999999999999999"), api.ErrLarge},
	{lengths("999999999999999", "999999999999999"), api.ErrLarge},
}

func TestOfRequestRefuses(t *testing.T) { // P6.1
	for _, c := range refused {
		if frame, err := framing.OfRequest(request(c.f)); frame != (framing.Frame{}) || err != c.want {
			t.Errorf("OfRequest of %q = %v, %v; want %v", c.f, frame, err, c.want)
		}
		compare(t, c.f)
	}
}

func TestOfResponse(t *testing.T) { // P6.1
	five := lengths("5")
	for _, c := range []struct {
		method string
		status int
		f      field.Fields
		want   framing.Frame
	}{
		{"GET", 200, nil, untold},
		{"GET", 200, of("host", "a", "content-lengths", "5"), untold},
		{"GET", 200, five, length(5)},
		{"GET", 200, lengths("0, 0"), length(0)},
		{"GET", 200, of("TRANSFER-encoding", "Chunked"), chunked},
		{"POST", 404, five, length(5)},
		{"", 500, codings("chunked"), chunked},
		// Only these methods and statuses are without a body.
		{"CONNECT", 200, five, length(5)},
		{"CONNECT", 200, nil, untold},
		{"head", 200, five, length(5)},
		{"Head", 200, nil, untold},
		{"HEADS", 200, codings("chunked"), chunked},
		{" HEAD", 200, codings("chunked"), chunked},
		{"GET", 205, five, length(5)},
		{"GET", 205, nil, untold},
		{"GET", 206, five, length(5)},
		{"GET", 303, nil, untold},
		{"GET", 305, nil, untold},
		{"GET", 99, five, length(5)},
		{"GET", 0, nil, untold},
		{"GET", -100, nil, untold},
	} {
		frame, err := framing.OfResponse(c.method, head.Response{Status: c.status, Fields: c.f})
		if frame != c.want || err != nil {
			t.Errorf("OfResponse(%q, %d with %q) = %v, %v; want %v", c.method, c.status, c.f, frame, err, c.want)
		}
		compareResponse(t, c.method, c.status, c.f)
		compare(t, c.f)
	}
}

func TestResponsesWithoutBody(t *testing.T) { // P6.3
	fields := []field.Fields{nil, of("a", "b"), lengths("0"), lengths("5"), lengths("65536"), codings("chunked")}
	for _, f := range fields {
		for status := 100; status <= 599; status++ {
			r := head.Response{Status: status, Fields: f}
			if frame, err := framing.OfResponse("HEAD", r); frame != none || err != nil {
				t.Errorf("OfResponse(HEAD, %v) = %v, %v", r, frame, err)
			}
			if status >= 200 && status != 204 && status != 304 {
				continue
			}
			for _, method := range methods {
				if frame, err := framing.OfResponse(method, r); frame != none || err != nil {
					t.Errorf("OfResponse(%q, %v) = %v, %v", method, r, frame, err)
				}
			}
		}
	}
}

func TestOfResponseRefuses(t *testing.T) { // P6.1
	for _, c := range refused {
		// The errors come first, also where there would be no body.
		for _, method := range methods {
			for _, status := range statuses {
				r := head.Response{Status: status, Fields: c.f}
				if frame, err := framing.OfResponse(method, r); frame != (framing.Frame{}) || err != c.want {
					t.Errorf("OfResponse(%q, %v) = %v, %v; want %v", method, r, frame, err, c.want)
				}
			}
		}
	}
}

func TestMethodsAndStatuses(t *testing.T) { // P6.1, P6.3
	all := slices.Clone(statuses)
	for n := -400; n <= 1400; n++ {
		all = append(all, n)
	}
	all = append(all, 100+1<<16, 204+1<<16, 204+1<<32, 304+1<<32, math.MinInt, math.MaxInt)
	for _, status := range all {
		for _, method := range methods {
			for _, f := range []field.Fields{nil, lengths("5"), codings("chunked"), lengths("x")} {
				compareResponse(t, method, status, f)
			}
		}
	}
}

func TestLenient(t *testing.T) { // P6.1
	for _, c := range []struct {
		f                  field.Fields
		byLength, byCoding framing.Frame
	}{
		{nil, none, none},
		{of("content-lengths", "5", "te", "chunked"), none, none},
		{lengths("5"), length(5), length(5)},
		{of("Content-LENGTH", "5"), length(5), length(5)},
		{lengths("0"), length(0), length(0)},
		{lengths("5, 6"), length(5), length(5)},
		{lengths("6", "5"), length(6), length(6)},
		{lengths("05"), length(5), length(5)},
		{lengths("", "x, +6,-7 ,8 8,\t9 "), length(9), length(9)},
		{lengths("\"5, 6\""), none, none},
		{lengths("\"5, 6, 7\""), length(6), length(6)},
		{lengths("\\,7"), length(7), length(7)},
		{lengths("\x00,7"), length(7), length(7)},
		{lengths("5\x00"), none, none},
		{lengths("\r\n7"), none, none},
		{lengths("\u00a07"), none, none},
		{lengths("7;8"), none, none},
		{lengths("7,\""), length(7), length(7)},
		{lengths("65537"), length(65537), length(65537)},
		{lengths("999999999999999"), length(999999999999999), length(999999999999999)},
		{lengths("0000000000000005"), none, none},
		{lengths("1000000000000000, 6"), length(6), length(6)},
		{codings("chunked"), chunked, chunked},
		{of("TRANSFER-encoding", "CHUNKED"), chunked, chunked},
		{codings("gzip, chunked"), chunked, chunked},
		{codings("gzip", "chunked"), chunked, chunked},
		{codings("chunked, gzip"), chunked, chunked},
		{codings("chunked", "gzip"), chunked, chunked},
		{codings("\tChunked ;q=1"), chunked, chunked},
		{codings("chunked;"), chunked, chunked},
		{codings("chunked\t; ;x"), chunked, chunked},
		{codings("\", chunked"), chunked, chunked},
		{codings("\x00,chunked;\x00"), chunked, chunked},
		{codings("\"a;b, chunked;c\""), chunked, chunked},
		{codings("gzip;chunked"), none, none},
		{codings(";chunked"), none, none},
		{codings("\"chunked\""), none, none},
		{codings("\"chunked, chunked\""), none, none},
		{codings("chunked x"), none, none},
		{codings("chunked=1;x"), none, none},
		{codings("xchunked"), none, none},
		{codings("chunk", "ed"), none, none},
		{codings("chunked\x00"), none, none},
		{codings("chun\u212aed"), none, none},
		{codings("identity", ""), none, none},
		{both(lengths("x, 7, 8"), codings("chunked")), length(7), chunked},
		{both(codings("gzip, chunked"), lengths("0")), length(0), chunked},
		{both(lengths("65537"), codings("chunked;x")), length(65537), chunked},
		{both(lengths("x"), codings("chunked")), chunked, chunked},
		{both(lengths(""), codings("chunked")), chunked, chunked},
		{both(lengths("5"), codings("xchunked")), length(5), length(5)},
		{both(lengths("5"), codings("")), length(5), length(5)},
		{both(lengths("x"), codings("gzip")), none, none},
	} {
		// The rest of a request does not matter.
		for _, r := range []head.Request{request(c.f), {Fields: c.f}, {Method: "HEAD", Target: "*", Fields: c.f}} {
			byLength, byCoding := framing.Lenient(r, true), framing.Lenient(r, false)
			if byLength != c.byLength || byCoding != c.byCoding {
				t.Errorf("Lenient(%q) = %v, %v; want %v, %v", r, byLength, byCoding, c.byLength, c.byCoding)
			}
			if got := framing.Ambiguous(r); got != (c.byLength != c.byCoding) {
				t.Errorf("Ambiguous(%q) = %v", r, got)
			}
		}
		compare(t, c.f)
	}
}

func TestAmbiguous(t *testing.T) { // P6.1, P6.2
	for _, c := range []struct {
		f    field.Fields
		want bool
	}{
		{nil, false},
		{lengths("5", "6"), false},
		{lengths("x"), false},
		{codings("gzip", "chunked"), false},
		{both(lengths("5"), codings("chunked")), true},
		{both(lengths("0"), codings("chunked")), true},
		{both(codings("gzip, Chunked;q=1"), lengths("x", "5")), true},
		{both(lengths("x"), codings("chunked")), false},
		{both(lengths("5"), codings("gzip")), false},
	} {
		r := request(c.f)
		if got := framing.Ambiguous(r); got != c.want {
			t.Errorf("Ambiguous of %q = %v", c.f, got)
		}
		if _, err := framing.OfRequest(r); c.want && err != api.ErrBoth {
			t.Errorf("OfRequest of the ambiguous %q: %v", c.f, err)
		}
	}
}

// listError is an error that cannot be compared, and codeError one that looks
// like a code of api.
type (
	listError []string
	codeError int
)

func (e listError) Error() string { return "malformed" }
func (e codeError) Error() string { return "malformed" }

func TestName(t *testing.T) { // P6.1
	for _, c := range []struct {
		err  error
		want string
	}{
		{api.ErrForm, "bad status"},
		{api.ErrLarge, "too large"},
		{api.ErrState, "unexpected response"},
		{api.ErrEnd, "unexpected end"},
		{api.ErrLine, "bad line end"},
		{api.ErrFold, "folded line"},
		{api.ErrSpace, "space before colon"},
		{api.ErrField, "bad field"},
		{api.ErrMethod, "bad method"},
		{api.ErrTarget, "bad target"},
		{api.ErrVersion, "bad version"},
		{api.ErrHost, "bad host"},
		{api.ErrLength, "bad length"},
		{api.ErrBoth, "both lengths"},
		{api.ErrCoding, "bad coding"},
		{api.ErrChunk, "bad chunk"},
		{api.ErrTrailer, "bad trailer"},
		{nil, ""},
		{api.ErrRange, ""},
		{api.ErrNone, ""},
		{api.ErrName, ""},
		{api.ErrFull, ""},
		{api.ErrMixed, ""},
		{errors.New("malformed"), ""},
		{fmt.Errorf("%w", api.ErrForm), ""},
		{errors.Join(api.ErrForm), ""},
		{new(api.Errno), ""},
		{(*api.Errno)(nil), ""},
		{listError{"malformed"}, ""},
		{codeError(api.ErrForm), ""},
	} {
		if got := framing.Name(c.err); got != c.want {
			t.Errorf("Name(%#v) = %q; want %q", c.err, got, c.want)
		}
	}
	for n := -100; n <= 1000; n++ {
		if got := framing.Name(api.Errno(n)); got != referenceName(n) {
			t.Errorf("Name of error %d = %q; want %q", n, got, referenceName(n))
		}
	}
	for _, n := range []int{math.MinInt, 2 + 1<<8, 5 + 1<<16, 21 + 1<<32, math.MaxInt} {
		if got := framing.Name(api.Errno(n)); got != "" {
			t.Errorf("Name of error %d = %q", n, got)
		}
	}
}

func TestAllShortValues(t *testing.T) { // P6.1, P6.2
	samples.Strings(5, []string{"5", "0", ",", " ", "\t", "\"", "\\", ";", "\n"}, func(s string) {
		compareRequest(t, lengths(s))
	})
	samples.Strings(5, []string{"chunked", "CHUNKED", ",", " ", "\"", "\\", ";", "x", "\x7f"}, func(s string) {
		compareRequest(t, codings(s))
	})
}

func TestAllShortLists(t *testing.T) { // P6.1, P6.2
	// A bar divides the values of several fields.
	samples.Strings(4, []string{"65536", "65537", "065536", ",", "|", "x", " "}, func(s string) {
		compare(t, lengths(strings.Split(s, "|")...))
	})
	samples.Strings(4, []string{"chunked", "Chunked", ",", "|", "gzip", ";", " "}, func(s string) {
		compare(t, codings(strings.Split(s, "|")...))
	})
}

func TestAllPairsOfLengthsAndCodings(t *testing.T) { // P6.1, P6.2
	values := []string{"", ",", "5", "0", "x", "+5", "5, 5", "x, 7", "65537", "\"5\"", "\"", "\x00", "0000000000000005"}
	names := []string{"", ",", "chunked", "Chunked", "xchunked", "gzip", "gzip, chunked", "chunked;q=1", ";chunked", "\"chunked\"", "\"", "\x00, chunked"}
	for _, a := range values {
		for _, b := range names {
			compare(t, both(lengths(a), codings(b)))
			for _, c := range values {
				compare(t, both(lengths(a, c), codings(b)))
				compare(t, both(both(lengths(a), codings(b)), lengths(c)))
			}
			for _, c := range names {
				compare(t, both(lengths(a), codings(b, c)))
				compare(t, both(both(codings(b), lengths(a)), codings(c)))
			}
		}
	}
}

func TestEachByteAtEachPlace(t *testing.T) { // P6.1, P6.2
	for _, s := range []string{"5", "5, 5", "65536", " 17\t,", "chunked", ", Chunked ", "gzip, chunked;q=1", "\"a\\b\", 5"} {
		samples.Edits(s, func(s string) { compareValue(t, s) })
		for at := range s {
			compareValue(t, s[:at])
		}
	}
}

// compareValue compares fields in which s is a value, or a name.
func compareValue(t *testing.T, s string) {
	t.Helper()
	compareRequest(t, lengths(s))
	compareRequest(t, codings(s))
	compareRequest(t, both(lengths("5"), codings(s)))
	compareRequest(t, both(lengths(s), codings("chunked")))
	compareRequest(t, of(s, "5", s, "chunked"))
}

func TestEachByteOfNames(t *testing.T) { // P6.1, P6.2
	for _, c := range []struct{ name, value string }{{lengthName, "5"}, {codingName, "chunked"}} {
		samples.Edits(c.name, func(s string) { compareRequest(t, of(s, c.value)) })
		for at := range c.name {
			compareRequest(t, of(c.name[:at], c.value))
			compareRequest(t, of(strings.ToUpper(c.name[:at])+c.name[at:], c.value))
		}
	}
}

func TestLimits(t *testing.T) { // P6.1, P6.2
	for n := 65530; n <= 65540; n++ {
		for width := 1; width <= 18; width++ {
			s := fmt.Sprintf("%0*d", width, n)
			compare(t, lengths(s))
			compare(t, lengths(s, s))
			want, e := length(n), error(nil)
			if len(s) > 15 {
				want, e = framing.Frame{}, api.ErrLength
			} else if n > 65536 {
				want, e = framing.Frame{}, api.ErrLarge
			}
			if frame, err := framing.OfRequest(request(lengths(s))); frame != want || err != e {
				t.Errorf("OfRequest with the length %s = %v, %v; want %v, %v", s, frame, err, want, e)
			}
		}
	}
	for n := 1; n <= 40; n++ {
		compare(t, lengths(strings.Repeat("9", n)))
		compare(t, lengths(strings.Repeat("0", n)))
		compare(t, lengths("1"+strings.Repeat("0", n)))
	}
	for _, n := range []int{0, 1, 9, 10, 255, 256, 999, 4096, 32767, 32768} {
		compare(t, lengths(fmt.Sprint(n)))
	}
}

func TestMessages(t *testing.T) { // P6.1, P6.2, and P2: what chapter 5 reads has one frame
	for _, c := range []struct {
		lines string
		want  framing.Frame
		err   error
	}{
		{"", none, nil},
		{"Content-Length:5\r\n", length(5), nil},
		{"Content-Length:\t5 \r\nCONTENT-LENGTH: 5\r\n", length(5), nil},
		{"Content-Length: 5\r\ncontent-length: 6\r\n", framing.Frame{}, api.ErrLength},
		{"Transfer-Encoding:Chunked\r\n", chunked, nil},
		{"Transfer-Encoding: chunked\r\nTransfer-encoding: identity\r\n", framing.Frame{}, api.ErrCoding},
		{"Transfer-Encoding: chunked\r\nContent-Length: 5\r\n", framing.Frame{}, api.ErrBoth},
	} {
		r, _, err := head.ReadRequest([]byte("POST / HTTP/1.1\r\nHost: a\r\n" + c.lines + "\r\n"))
		if err != nil {
			t.Fatal(err)
		}
		if frame, err := framing.OfRequest(r); frame != c.want || err != c.err {
			t.Errorf("OfRequest(%q) = %v, %v; want %v, %v", r, frame, err, c.want, c.err)
		}
		compare(t, r.Fields)
	}
}

// someFields returns fields of which many concern the frame.
func someFields(random *rand.Rand) field.Fields {
	names := []string{lengthName, lengthName, "Content-Length", codingName, codingName, "TRANSFER-ENCODING", "a", "te"}
	parts := []string{"5", "5", "6", "05", "65536", "65537", ",", ",", ", ", " ", "\t", ";", "\"", "\\", "x", "+", "chunked", "chunked", "Chunked", "gzip", "q=1", "\x00", "\u00e9"}
	var f field.Fields
	for range random.Intn(4) {
		value := ""
		for range random.Intn(5) {
			value += parts[random.Intn(len(parts))]
		}
		f = append(f, field.Field{Name: names[random.Intn(len(names))], Value: value})
	}
	return f
}

func TestRandomFields(t *testing.T) { // P6.1, P6.2
	random := rand.New(rand.NewSource(6))
	for range 100000 {
		compareRequest(t, someFields(random))
	}
	for range 20000 {
		compareResponse(t, methods[random.Intn(len(methods))], statuses[random.Intn(len(statuses))], someFields(random))
	}
}

func FuzzFrames(f *testing.F) { // P6.1, P6.2, P6.3
	f.Add("5, 5", "5", "GET", 200)
	f.Add("x, 7", "gzip, chunked;q=1", "HEAD", 204)
	f.Add("\"5\\\"", "Chunked", "POST", 199)
	f.Fuzz(func(t *testing.T, a, b, method string, status int) {
		for _, list := range []field.Fields{lengths(a), lengths(a, b), codings(a), codings(b, a), both(lengths(a), codings(b)), of(a, b)} {
			compare(t, list)
			compareResponse(t, method, status, list)
		}
		if got := framing.Name(api.Errno(status)); got != referenceName(status) {
			t.Errorf("Name of error %d = %q", status, got)
		}
	})
}

func TestArgumentsAreKept(t *testing.T) { // P1 with rule 3
	for _, list := range []field.Fields{
		of("Content-Length", " 5 ", "content-length", "5,5"),
		of("TRANSFER-Encoding", "\tChunked", "a", "B"),
		of("Content-Length", "5", "Transfer-Encoding", "Chunked"),
	} {
		// What stands behind the fields must be kept as well.
		space := append(slices.Clone(list), of("X", "Y", "Z", "W")...)
		kept := slices.Clone(space)
		f := space[:len(list)]
		for range 2 {
			framing.OfRequest(request(f))
			framing.OfResponse("GET", head.Response{Status: 200, Fields: f})
			framing.Lenient(request(f), true)
			framing.Lenient(request(f), false)
			framing.Ambiguous(request(f))
		}
		if !slices.Equal(space, kept) {
			t.Errorf("%q became %q", kept, space)
		}
	}
}

func TestLongInputs(t *testing.T) { // P1
	const n = 1 << 18
	for _, c := range []struct {
		f                  field.Fields
		want               error
		byLength, byCoding framing.Frame
	}{
		{lengths(strings.Repeat("5", n)), api.ErrLength, none, none},
		{lengths(strings.Repeat("5,", n)), nil, length(5), length(5)},
		{lengths(strings.Repeat("5,", n) + "6"), api.ErrLength, length(5), length(5)},
		{lengths(strings.Repeat(" ", n) + "5" + strings.Repeat("\t", n)), nil, length(5), length(5)},
		{lengths(strings.Repeat(",", n)), api.ErrLength, none, none},
		{lengths(strings.Repeat("\"", n)), api.ErrLength, none, none},
		{codings(strings.Repeat(",", n) + "chunked"), nil, chunked, chunked},
		{codings(strings.Repeat("chunked,", n)), api.ErrCoding, chunked, chunked},
		{codings(strings.Repeat(";", n)), api.ErrCoding, none, none},
		{slices.Repeat(lengths("5"), n), nil, length(5), length(5)},
		{append(slices.Repeat(codings(""), n), codings("chunked")...), nil, chunked, chunked},
		{append(slices.Repeat(codings("gzip"), n), lengths("5")...), api.ErrBoth, length(5), length(5)},
	} {
		if _, err := framing.OfRequest(request(c.f)); err != c.want {
			t.Errorf("OfRequest of %.40q: %v; want %v", c.f[0], err, c.want)
		}
		if _, err := framing.OfResponse("HEAD", head.Response{Status: 200, Fields: c.f}); err != c.want {
			t.Errorf("OfResponse of %.40q: %v; want %v", c.f[0], err, c.want)
		}
		byLength, byCoding := framing.Lenient(request(c.f), true), framing.Lenient(request(c.f), false)
		if byLength != c.byLength || byCoding != c.byCoding {
			t.Errorf("Lenient of %.40q = %v, %v", c.f[0], byLength, byCoding)
		}
	}
}
