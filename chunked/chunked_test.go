package chunked_test

import (
	"bytes"
	"fmt"
	"math/rand"
	"slices"
	"strings"
	"testing"

	"quayside/api"
	"quayside/chunked"
	"quayside/field"
	"quayside/samples"
)

// of returns the fields with the names and values given in turn, and some one
// of the texts.
var (
	of   = samples.Fields
	some = samples.Some
)

func repeat(s string, n int) string {
	return strings.Repeat(s, n)
}

// decode writes the parts to one decoder and returns what comes of them. It
// checks each step: what stops the decoder stays, and trailers come at the end.
func decode(t *testing.T, parts ...string) outcome {
	t.Helper()
	d := chunked.New()
	var o outcome
	var all []byte
	for i, part := range parts {
		b := []byte(part)
		body, n, err := d.Write(b)
		if string(b) != part {
			t.Errorf("the argument %.200q was changed", part)
		}
		if (o.err != nil || o.done) && (len(body) != 0 || n != 0 || err != o.err) {
			t.Errorf("%.200q after %v: %.100q, %d, %v", part, o, body, n, err)
		}
		all = append(all, body...)
		o = outcome{"", o.taken + n, err, d.Done(), d.Trailers()}
		if stopped := o.err != nil || o.done; n > len(part) || n < len(part) && !stopped {
			t.Errorf("part %d of %.200q: %d taken of %d bytes, %v", i, parts, n, len(part), o)
		}
		if o.done && o.err != nil || !o.done && len(o.trailers) != 0 {
			t.Errorf("part %d of %.200q: %v", i, parts, o)
		}
	}
	o.body = string(all)
	return o
}

// stays checks that after the parts nothing more is taken, if a decoder has
// found the end or a fault in them.
func stays(t *testing.T, s string, o outcome) {
	t.Helper()
	if !o.done && o.err == nil {
		return
	}
	if again := decode(t, s, "", "0\r\n\r\n", s, "\n", "x"); !same(again, o) {
		t.Errorf("%.200q and more bytes: %v; want %v", s, again, o)
	}
}

// compare checks a decoder against reference_test.go, for some cuts of s.
func compare(t *testing.T, s string) {
	t.Helper()
	want := referenceDecode(s)
	if got := decode(t, s); !same(got, want) {
		t.Errorf("%.200q: %v; want %v", s, got, want)
	}
	for _, parts := range [][]string{samples.Bytewise(s), {s[:len(s)/2], "", s[len(s)/2:]}} {
		if got := decode(t, parts...); !same(got, want) {
			t.Errorf("%.200q in parts: %v; want %v", parts, got, want)
		}
	}
	stays(t, s, want)
}

// compareCuts is compare for all cuts of s into two, and some into three.
func compareCuts(t *testing.T, s string) {
	t.Helper()
	compare(t, s)
	want := referenceDecode(s)
	for i := range len(s) + 1 {
		j := i + (len(s)-i)/3
		for _, parts := range [][]string{{s[:i], s[i:]}, {s[:i], s[i:j], s[j:]}} {
			if got := decode(t, parts...); !same(got, want) {
				t.Errorf("%.200q in parts: %v; want %v", parts, got, want)
			}
		}
	}
}

func TestWrite(t *testing.T) { // P7.1, P7.2
	for _, c := range []struct {
		s, body string
		f       field.Fields
	}{
		{"0\r\n\r\n", "", nil},
		{"00000000\r\n\r\n", "", nil},
		{"0;\r\n\r\n", "", nil},
		{"000;last chunk\r\n\r\n", "", nil},
		{"3\r\nabc\r\n0\r\n\r\n", "abc", nil},
		{"003;x=y\r\nabc\r\n0\r\n\r\n", "abc", nil},
		{"00000003\r\nabc\r\n0\r\n\r\n", "abc", nil},
		{"1\r\na\r\n2\r\nbc\r\n0\r\n\r\n", "abc", nil},
		{"a\r\n0123456789\r\nB\r\nabcdefghijk\r\n0\r\n\r\n", "0123456789abcdefghijk", nil},
		{"f\r\n" + repeat("f", 15) + "\r\nF\r\n" + repeat("F", 15) + "\r\n1f\r\n" + repeat("1", 31) + "\r\n0\r\n\r\n", repeat("f", 15) + repeat("F", 15) + repeat("1", 31), nil},
		{"c\r\n" + repeat("c", 12) + "\r\nD\r\n" + repeat("D", 13) + "\r\nE\r\n" + repeat("e", 14) + "\r\n0\r\n\r\n", repeat("c", 12) + repeat("D", 13) + repeat("e", 14), nil},
		// The data may be any bytes, also those that are ends elsewhere.
		{"5\r\n0\r\n\r\n\r\n0\r\n\r\n", "0\r\n\r\n", nil},
		{"1\r\n\r\r\n1\r\n\n\r\n1\r\n\x00\r\n1\r\n\xff\r\n0\r\n\r\n", "\r\n\x00\xff", nil},
		{"2\r\n\r\n\r\n0\r\n\r\n", "\r\n", nil},
		// Neither are extensions looked at, but for control bytes.
		{"1; \t;;,\"\\=\x80\xff\u00e9~\r\na\r\n0;\t\r\n\r\n", "a", nil},
		{"1;0;3\r\na\r\n0\r\n\r\n", "a", nil},
		{"0\r\na:\r\n\r\n", "", of("a", "")},
		{"0\r\nA: 1\r\nb:2\r\n\r\n", "", of("a", "1", "b", "2")},
		{"1\r\nx\r\n0\r\nX-Y: \t1 \t2\t \r\nx-y:1:2\r\nX-Y::\r\n\r\n", "x", of("x-y", "1 \t2", "x-y", "1:2", "x-y", ":")},
		{"0\r\n!#$%&'*+-.^_`|~: \x80\xff\"\\\r\n\r\n", "", of("!#$%&'*+-.^_`|~", "\x80\xff\"\\")},
		// Only some names are forbidden.
		{"0\r\nhosts:a\r\nte: b\r\ncookie:c\r\ncontent-type:d\r\ntrailers:e\r\netag:f\r\nexpires:g\r\n\r\n", "", of("hosts", "a", "te", "b", "cookie", "c", "content-type", "d", "trailers", "e", "etag", "f", "expires", "g")},
	} {
		want := outcome{c.body, len(c.s), nil, true, c.f}
		for _, follows := range followers {
			if got := decode(t, c.s+follows); !same(got, want) {
				t.Errorf("%.200q, followed by %.40q: %v; want %v", c.s, follows, got, want)
			}
			if got := decode(t, c.s, follows, ""); !same(got, want) {
				t.Errorf("%.200q, then %.40q: %v; want %v", c.s, follows, got, want)
			}
		}
		compareCuts(t, c.s)
		compareCuts(t, c.s+"\r\nx")
	}
}

// followers are what may follow a body.
var followers = []string{"", "\n", "\r", "\r\n", "x", "\x00", "0\r\n\r\n", "a: b\r\n\r\n", "GET / HTTP/1.1\r\n", repeat("a", 9000)}

func TestWriteRefuses(t *testing.T) { // P7.1, P7.2
	for _, c := range []struct {
		// The byte after the first part is faulty, whatever it is a part of.
		s, rest, body string
		want          error
	}{
		// The first byte of a size line is no digit.
		{"", "g", "", api.ErrChunk},
		{"", "G", "", api.ErrChunk},
		{"", "\r\n", "", api.ErrChunk},
		{"", "\n", "", api.ErrChunk},
		{"", ";", "", api.ErrChunk},
		{"", " 3\r\nabc", "", api.ErrChunk},
		{"", "\t3\r\n", "", api.ErrChunk},
		{"", "+3\r\n", "", api.ErrChunk},
		{"", "-3\r\n", "", api.ErrChunk},
		{"", "\x00", "", api.ErrChunk},
		{"", "\xff", "", api.ErrChunk},
		{"", "\uff13\r\n", "", api.ErrChunk},
		{"", "/", "", api.ErrChunk},
		{"", ":", "", api.ErrChunk},
		{"", "@", "", api.ErrChunk},
		{"", "`", "", api.ErrChunk},
		{"1\r\na\r\n", "\r\n", "a", api.ErrChunk},
		{"1\r\na\r\n", "x", "a", api.ErrChunk},
		// The ninth digit.
		{"00000003", "0\r\n", "", api.ErrChunk},
		{"00000000", "3\r\n", "", api.ErrChunk},
		{"00010000", "f", "", api.ErrChunk},
		{"1\r\na\r\n00000000", "0", "a", api.ErrChunk},
		// Neither a digit nor a semicolon nor a CR.
		{"3", " \r\nabc\r\n", "", api.ErrChunk},
		{"3", " ;x\r\nabc\r\n", "", api.ErrChunk},
		{"3", "\t\r\n", "", api.ErrChunk},
		{"3", "\nabc", "", api.ErrChunk},
		{"3", "g", "", api.ErrChunk},
		{"0", "x3\r\n", "", api.ErrChunk},
		{"3", "h\r\n", "", api.ErrChunk},
		{"3", ",3\r\n", "", api.ErrChunk},
		{"3", "\x00", "", api.ErrChunk},
		{"3", "_0\r\n", "", api.ErrChunk},
		{"00000003", " ", "", api.ErrChunk},
		// A control byte in an extension.
		{"3;", "\nabc", "", api.ErrChunk},
		{"3;a=b", "\n", "", api.ErrChunk},
		{"3;", "\x00", "", api.ErrChunk},
		{"3;\t", "\v", "", api.ErrChunk},
		{"3;\x80", "\x7f", "", api.ErrChunk},
		{"3; ", "\x1f", "", api.ErrChunk},
		{"3;\"", "\x08\"\r\n", "", api.ErrChunk},
		// Not an LF after a CR.
		{"3\r", "\rabc", "", api.ErrChunk},
		{"3\r", "abc", "", api.ErrChunk},
		{"3;\r", "\r\nabc", "", api.ErrChunk},
		{"3;a\r", "b\r\nabc", "", api.ErrChunk},
		{"0\r", "\x00", "", api.ErrChunk},
		// Another byte after the data.
		{"3\r\nabc", "d", "abc", api.ErrChunk},
		{"3\r\nabc", "\n0\r\n\r\n", "abc", api.ErrChunk},
		{"3\r\nabc", "0\r\n\r\n", "abc", api.ErrChunk},
		{"3\r\nabc", " \r\n", "abc", api.ErrChunk},
		{"3\r\nabc\r", "\r\n", "abc", api.ErrChunk},
		{"3\r\nabc\r", "0\r\n", "abc", api.ErrChunk},
		{"3\r\nab\r", "0", "ab\r", api.ErrChunk},
		{"3\r\nab\r", "\n", "ab\r", api.ErrChunk},
		// The number is too large.
		{"1000", "1\r\n", "", api.ErrLarge},
		{"0001000", "1\r\n", "", api.ErrLarge},
		{"1000", "f;\x00", "", api.ErrLarge},
		{"2000", "0", "", api.ErrLarge},
		{"10000", "0\r\n", "", api.ErrLarge},
		{"10000", "00000", "", api.ErrLarge},
		{"ffff", "f", "", api.ErrLarge},
		{"FFFF", "FFFF\r\n", "", api.ErrLarge},
		{"1\r\na\r\n1000", "0\r\n", "a", api.ErrLarge},
		{"1\r\na\r\nFFFF", "f\r\n", "a", api.ErrLarge},
		{"fff0\r\n" + repeat("a", 65520) + "\r\n1", "1\r\n", repeat("a", 65520), api.ErrLarge},
		{"10000\r\n" + repeat("a", 65536) + "\r\n", "1\r\n", repeat("a", 65536), api.ErrLarge},
		{"10000\r\n" + repeat("a", 65536) + "\r\n0", "1\r\n", repeat("a", 65536), api.ErrLarge},
		{"10000\r\n" + repeat("a", 65536) + "\r\n", "a", repeat("a", 65536), api.ErrLarge},
		{"10000\r\n" + repeat("a", 65536) + "\r\n", "g", repeat("a", 65536), api.ErrChunk},
		{"10000\r\n" + repeat("a", 65536) + "\r\n00000000", "1", repeat("a", 65536), api.ErrChunk},
		{"10000\r\n" + repeat("a", 65536), "a", repeat("a", 65536), api.ErrChunk},
		// The trailers.
		{"0\r\n", "\n", "", api.ErrTrailer},
		{"0\r\n", "\x00", "", api.ErrTrailer},
		{"0\r\n\r", "\r\n", "", api.ErrTrailer},
		{"0\r\n\r", "0", "", api.ErrTrailer},
		{"0\r\n\r", "\x00", "", api.ErrTrailer},
		{"0\r\na: b", "\n", "", api.ErrTrailer},
		{"0\r\na: b", "\x00\r\n", "", api.ErrTrailer},
		{"0\r\n\x01", "\x00", "", api.ErrTrailer},
		{"0\r\na: b\r", "\r\n", "", api.ErrTrailer},
		{"0\r\na: b\r", "c\r\n", "", api.ErrTrailer},
		{"0\r\na: b\r\n", "\n", "", api.ErrTrailer},
		{"0\r\na: b\r\n\r", "\r\n", "", api.ErrTrailer},
		{"0\r\na\r", "\n\r\n", "", api.ErrTrailer},
		{"0\r\n0\r", "\n\r\n", "", api.ErrTrailer},
		{"0\r\n:\r", "\n", "", api.ErrTrailer},
		{"0\r\n: b\r", "\n", "", api.ErrTrailer},
		{"0\r\n:a: b\r", "\n", "", api.ErrTrailer},
		{"0\r\n \r", "\n", "", api.ErrTrailer},
		{"0\r\n\t\r", "\n", "", api.ErrTrailer},
		{"0\r\n a: b\r", "\n", "", api.ErrTrailer},
		{"0\r\na : b\r", "\n", "", api.ErrTrailer},
		{"0\r\na\t: b\r", "\n", "", api.ErrTrailer},
		{"0\r\na b: c\r", "\n", "", api.ErrTrailer},
		{"0\r\na: b\r\n c\r", "\n", "", api.ErrTrailer},
		{"0\r\na: b\r\n c: d\r", "\n", "", api.ErrTrailer},
		{"0\r\na;b: c\r", "\n", "", api.ErrTrailer},
		{"0\r\n\xe9: b\r", "\n", "", api.ErrTrailer},
		{"0\r\na: \x01\r", "\n", "", api.ErrTrailer},
		{"0\r\na: b\x7f\r", "\n\r\n", "", api.ErrTrailer},
		{"0\r\n\x1b: b\r", "\n", "", api.ErrTrailer},
		{"0\r\na: b\r\nhost: a\r", "\n", "", api.ErrTrailer},
	} {
		want := outcome{c.body, len(c.s), c.want, false, nil}
		if got := decode(t, c.s+c.rest); !same(got, want) {
			t.Errorf("%.200q: %v; want %v", c.s+c.rest, got, want)
		}
		if got := decode(t, c.s, c.rest, "", "\r\n"); !same(got, want) {
			t.Errorf("%.200q, then %.200q: %v; want %v", c.s, c.rest, got, want)
		}
		if got := decode(t, c.s); !same(got, outcome{c.body, len(c.s), nil, false, nil}) {
			t.Errorf("%.200q: %v; want no error", c.s, got)
		}
		compare(t, c.s+c.rest)
	}
}

func TestForbiddenTrailers(t *testing.T) { // P7.1
	names := []string{"authorization", "cache-control", "content-length", "host", "set-cookie", "trailer", "transfer-encoding"}
	for _, name := range names {
		for _, name := range []string{name, strings.ToUpper(name), strings.ToUpper(name[:1]) + name[1:]} {
			for _, before := range []string{"0\r\n", "1\r\na\r\n000;x\r\nb: c\r\n"} {
				want := outcome{"", len(before + name + ":a\r"), api.ErrTrailer, false, nil}
				if before != "0\r\n" {
					want.body = "a"
				}
				if got := decode(t, before+name+":a\r\n\r\n"); !same(got, want) {
					t.Errorf("%q as a trailer: %v; want %v", name, got, want)
				}
				compareCuts(t, before+name+":a\r\n\r\n")
			}
			for _, f := range []field.Fields{of(name, "a"), of("b", "c", name, ""), of(name, "1", "b", "c")} {
				if b, err := chunked.Last(f); len(b) != 0 || err != api.ErrTrailer {
					t.Errorf("Last(%q) = %q, %v", f, b, err)
				}
				if b, err := chunked.Encode([][]byte{{1}}, f); len(b) != 0 || err != api.ErrTrailer {
					t.Errorf("Encode with %q = %q, %v", f, b, err)
				}
			}
		}
		// Names that are nearly forbidden are permitted.
		for _, name := range []string{name + "s", "x" + name, name[1:], name[:len(name)-1], name + "-", strings.ReplaceAll(name, "-", "_") + "_"} {
			s := "0\r\n" + name + ": a\r\n\r\n"
			if got := decode(t, s); !same(got, outcome{"", len(s), nil, true, of(name, "a")}) {
				t.Errorf("%q as a trailer: %v", name, got)
			}
			if b, err := chunked.Last(of(name, "a")); string(b) != s || err != nil {
				t.Errorf("Last with %q = %q, %v", name, b, err)
			}
		}
	}
}

func TestLimitOfSizeLines(t *testing.T) { // P7.1, P7.2
	for _, size := range []string{"0", "1", "00000001", "00000000"} {
		for n := 253; n <= 259; n++ {
			line := size + ";" + repeat("e", n-len(size)-1)
			want := outcome{"", 256, api.ErrChunk, false, nil}
			if n <= 256 {
				want = outcome{"", n + 2, nil, false, nil}
			}
			if got := decode(t, line+"\r\n"); !same(got, want) {
				t.Errorf("a size line of %d bytes: %v; want %v", n, got, want)
			}
			for _, s := range []string{line + "\r\n", line + "\r\r", line + "\n", line + "\x00", line + "\rx", line + ";\r\n"} {
				compareCuts(t, s)
				compare(t, "1\r\na\r\n"+s)
			}
			// Two bytes of UTF-8 are two bytes.
			compare(t, strings.ReplaceAll(line, "ee", "\u00e9")+"\r\n")
		}
	}
}

// section returns trailer lines of n bytes with their end; n is large.
func section(n int) string {
	s := repeat("b:"+repeat("c", 1596)+"\r\n", 4)
	return s + "d:" + repeat("e", n-len(s)-len("d:\r\n\r\n")) + "\r\n\r\n"
}

func TestLimitOfTrailers(t *testing.T) { // P7.1, P7.2
	for n := 8188; n <= 8196; n++ {
		s := "0\r\n" + section(n)
		got := decode(t, s)
		if n <= 8192 && (got.taken != len(s) || got.err != nil || !got.done || len(got.trailers) != 5) {
			t.Errorf("%d bytes of trailers: %v", n, got)
		}
		if n > 8192 && !same(got, outcome{"", 3 + 8192, api.ErrTrailer, false, nil}) {
			t.Errorf("%d bytes of trailers: %v", n, got)
		}
		compare(t, s)
		compare(t, "000;x\r\n"+s[3:]+"rest")
		compare(t, "1\r\na\r\n"+s)
	}
	// The limit also concerns lines that are no trailer lines.
	for _, line := range []string{"x", " ", ":", "\r", "\x00", "a:b\r\n", "\xff"} {
		compare(t, "0\r\n"+repeat(line, 8200))
	}
	for n := 62; n <= 67; n++ {
		s := "0\r\n" + repeat("A:1\r\n", n) + "\r\n"
		want := outcome{"", len(s), nil, true, slices.Repeat(of("a", "1"), n)}
		if n > 64 {
			want = outcome{"", 3 + 65*5 - 1, api.ErrTrailer, false, nil}
		}
		if got := decode(t, s); !same(got, want) {
			t.Errorf("%d trailers: %v; want %v", n, got, want)
		}
		compare(t, s)
		compare(t, "0\r\n"+repeat("a:\r\n", n)+"host:\r\n\r\n")
	}
}

func TestLimitOfNamesAndValues(t *testing.T) { // P7.1, P7.2
	for _, c := range []struct {
		name, value string
		ok          bool
	}{
		{repeat("N", 64), "1", true},
		{repeat("n", 65), "1", false},
		{"a", repeat("v", 2048), true},
		{"a", repeat("v", 2049), false},
		{"a", " \t" + repeat("v", 2048) + " \t", true},
		{"a", repeat(" ", 4000), true},
		{"a", "v" + repeat(" ", 2047) + "v", false},
	} {
		s := "0\r\n" + c.name + ":" + c.value + "\r\n\r\n"
		want := outcome{"", len(s), nil, true, of(strings.ToLower(c.name), strings.Trim(c.value, " \t"))}
		if !c.ok {
			want = outcome{"", len(s) - 3, api.ErrTrailer, false, nil}
		}
		if got := decode(t, s); !same(got, want) {
			t.Errorf("%.80q: %v; want %v", s, got, want)
		}
		compare(t, s)
	}
}

func TestLimitOfData(t *testing.T) { // P7.1, P7.2
	for _, sizes := range [][]int{{65536}, {65535, 1}, {1, 65535}, {32768, 32768}, {4096, 61440}, {65520, 15, 1}, {65537}, {65536, 1}, {65535, 2}, {32768, 32769}, {1, 65536}, {60000, 4000, 2000}} {
		for _, format := range []string{"%x\r\n%s\r\n", "%X;y\r\n%s\r\n", "%08x\r\n%s\r\n"} {
			s, total := "", 0
			for _, n := range sizes {
				s += fmt.Sprintf(format, n, repeat("d", n))
				total += n
			}
			s += "0\r\n\r\n"
			got := decode(t, s)
			if ok := total <= 65536; got.done != ok || ok && len(got.body) != total || !ok && got.err != api.ErrLarge {
				t.Errorf("chunks of %v bytes: %v", sizes, got)
			}
			compare(t, s)
		}
	}
	for n := range 1 << 18 {
		s := fmt.Sprintf("%x\r\n", n)
		want := outcome{"", len(s), nil, false, nil}
		if n > 65536 {
			want = outcome{"", 4, api.ErrLarge, false, nil}
		}
		if got := decode(t, s); !same(got, want) {
			t.Errorf("%q: %v; want %v", s, got, want)
		}
	}
}

func TestErrorsStay(t *testing.T) { // P7.1
	for _, c := range []struct {
		s     string
		taken int
		want  error
	}{
		{"3\r\nabcx", 6, api.ErrChunk},
		{"g", 0, api.ErrChunk},
		{"10001", 4, api.ErrLarge},
		{"0\r\nhost: a\r\n", 11, api.ErrTrailer},
	} {
		d := chunked.New()
		if _, n, err := d.Write([]byte(c.s)); n != c.taken || err != c.want {
			t.Errorf("%q: %d, %v", c.s, n, err)
		}
		// Also what would have been right is not taken any more.
		for _, s := range []string{"", c.s[c.taken:], "\r", "\n", "\r\n", "0\r\n\r\n", "1", "a"} {
			for _, b := range [][]byte{[]byte(s), nil} {
				if body, n, err := d.Write(b); len(body) != 0 || n != 0 || err != c.want || d.Done() || len(d.Trailers()) != 0 {
					t.Errorf("%q after %q: %q, %d, %v", b, c.s, body, n, err)
				}
			}
		}
	}
}

func TestEndStays(t *testing.T) { // P7.1
	d := chunked.New()
	s := "1\r\na\r\n0\r\nB: c\r\n\r\n"
	if body, n, err := d.Write([]byte(s + "g")); string(body) != "a" || n != len(s) || err != nil || !d.Done() {
		t.Fatalf("%q: %q, %d, %v", s, body, n, err)
	}
	for _, more := range []string{"", "g", s, "\x00", "\r\n"} {
		if body, n, err := d.Write([]byte(more)); len(body) != 0 || n != 0 || err != nil || !d.Done() {
			t.Errorf("%q after the end: %q, %d, %v", more, body, n, err)
		}
		if f := d.Trailers(); !slices.Equal(f, of("b", "c")) {
			t.Errorf("the trailers after %q are %q", more, f)
		}
	}
}

func TestNilDecoder(t *testing.T) { // P7.1, P1
	var d *chunked.Decoder
	for range 2 {
		for _, b := range [][]byte{nil, {}, []byte("0\r\n\r\n"), []byte("g")} {
			if body, n, err := d.Write(b); len(body) != 0 || n != 0 || err != api.ErrNone {
				t.Errorf("Write(%q) = %q, %d, %v", b, body, n, err)
			}
		}
		if d.Done() || len(d.Trailers()) != 0 {
			t.Errorf("the nil decoder: %v, %q", d.Done(), d.Trailers())
		}
	}
}

func TestNewDecoder(t *testing.T) { // P7.1
	d := chunked.New()
	if body, n, err := d.Write(nil); len(body) != 0 || n != 0 || err != nil || d.Done() || len(d.Trailers()) != 0 {
		t.Errorf("a new decoder: %q, %d, %v, %v, %q", body, n, err, d.Done(), d.Trailers())
	}
	// Decoders do not disturb each other.
	a, b := chunked.New(), chunked.New()
	s := "2\r\nab\r\n0\r\nc: d\r\n\r\n"
	for i := range len(s) {
		a.Write([]byte(s[i : i+1]))
		b.Write([]byte(strings.Replace(s, "d", "e", 1)[i : i+1]))
	}
	if !slices.Equal(a.Trailers(), of("c", "d")) || !slices.Equal(b.Trailers(), of("c", "e")) {
		t.Errorf("the trailers are %q and %q", a.Trailers(), b.Trailers())
	}
}

func TestChunk(t *testing.T) { // P7.1
	for _, c := range []struct{ b, want string }{
		{"", ""},
		{"a", "1\r\na\r\n"},
		{"abc", "3\r\nabc\r\n"},
		{"\r\n\x00", "3\r\n\r\n\x00\r\n"},
		{repeat("x", 10), "a\r\n" + repeat("x", 10) + "\r\n"},
		{repeat("x", 16), "10\r\n" + repeat("x", 16) + "\r\n"},
		{repeat("x", 65536), "10000\r\n" + repeat("x", 65536) + "\r\n"},
		// Chunk alone has no limit.
		{repeat("x", 65537), "10001\r\n" + repeat("x", 65537) + "\r\n"},
		{repeat("x", 0xabcdef), "abcdef\r\n" + repeat("x", 0xabcdef) + "\r\n"},
	} {
		if got := chunked.Chunk([]byte(c.b)); string(got) != c.want {
			t.Errorf("Chunk(%.40q) = %.40q; want %.40q", c.b, got, c.want)
		}
	}
	if got := chunked.Chunk(nil); len(got) != 0 {
		t.Errorf("Chunk(nil) = %q", got)
	}
	for n := 1; n <= 1<<12; n++ {
		s := repeat("y", n)
		if got, want := string(chunked.Chunk([]byte(s))), fmt.Sprintf("%x\r\n%s\r\n", n, s); got != want {
			t.Errorf("Chunk of %d bytes = %.40q", n, got)
		}
	}
}

// compareEncode checks Last and Encode against reference_test.go, and P7.3 for
// what they accept.
func compareEncode(t *testing.T, parts []string, f field.Fields) {
	t.Helper()
	kept := slices.Clone(f)
	last, err := chunked.Last(f)
	if want, e := referenceLast(f); string(last) != want || err != e {
		t.Errorf("Last(%.200q) = %.200q, %v; want %.200q, %v", f, last, err, want, e)
	}
	var data [][]byte
	for _, part := range parts {
		data = append(data, []byte(part))
	}
	b, err := chunked.Encode(data, f)
	if want, e := referenceEncode(parts, f); string(b) != want || err != e {
		t.Errorf("Encode(%.200q, %.200q) = %.200q, %v; want %.200q, %v", parts, f, b, err, want, e)
	}
	if err == nil {
		decodeAgain(t, string(b), strings.Join(parts, ""), f)
	}
	for i, part := range parts {
		if string(data[i]) != part {
			t.Errorf("the part %.200q was changed", part)
		}
	}
	if !slices.Equal(f, kept) {
		t.Errorf("the trailers %.200q were changed", kept)
	}
}

// decodeAgain is P7.3 for s, of which the data and the trailers must come.
func decodeAgain(t *testing.T, s, data string, f field.Fields) {
	t.Helper()
	var lowered field.Fields
	for _, x := range f {
		lowered = append(lowered, of(strings.ToLower(x.Name), x.Value)...)
	}
	want := outcome{data, len(s), nil, true, lowered}
	for _, follows := range followers {
		if got := decode(t, s+follows); !same(got, want) {
			t.Errorf("%.200q, followed by %.40q, is %v; want %v", s, follows, got, want)
		}
	}
	// Byte for byte, each proper prefix is written once.
	d := chunked.New()
	for i := range len(s) {
		if _, _, err := d.Write(nil); err != nil || d.Done() {
			t.Errorf("the first %d bytes of %.200q: %v, %v", i, s, err, d.Done())
		}
		if _, n, err := d.Write([]byte{s[i]}); n != 1 || err != nil {
			t.Errorf("byte %d of %.200q: %d, %v", i, s, n, err)
		}
	}
	if len(s) > 100 {
		return
	}
	for i := range len(s) {
		if got := decode(t, s[:i]); got.taken != i || got.err != nil || got.done {
			t.Errorf("the first %d bytes of %q: %v", i, s, got)
		}
	}
}

func TestEncode(t *testing.T) { // P7.1, P7.3
	for _, c := range []struct {
		parts []string
		f     field.Fields
		want  string
	}{
		{nil, nil, "0\r\n\r\n"},
		{[]string{}, field.Fields{}, "0\r\n\r\n"},
		{[]string{""}, nil, "0\r\n\r\n"},
		{[]string{"", "", ""}, of("a", ""), "0\r\na: \r\n\r\n"},
		{[]string{"abc", ""}, nil, "3\r\nabc\r\n0\r\n\r\n"},
		{[]string{"", "a", "", "bc", ""}, nil, "1\r\na\r\n2\r\nbc\r\n0\r\n\r\n"},
		{[]string{"0\r\n\r\n"}, of("A-B", "c: d"), "5\r\n0\r\n\r\n\r\n0\r\na-b: c: d\r\n\r\n"},
		{[]string{"\x00"}, of("B", "1", "a", "2", "b", "1"), "1\r\n\x00\r\n0\r\nb: 1\r\na: 2\r\nb: 1\r\n\r\n"},
		// The size counts bytes, of which a character may have several.
		{[]string{"\u00e9", "\u20ac"}, of("X", "\u00e9"), "2\r\n\u00e9\r\n3\r\n\u20ac\r\n0\r\nx: \u00e9\r\n\r\n"},
		{[]string{repeat("x", 26)}, of("X", "a\tb\xff"), "1a\r\n" + repeat("x", 26) + "\r\n0\r\nx: a\tb\xff\r\n\r\n"},
	} {
		var parts [][]byte
		for _, part := range c.parts {
			parts = append(parts, []byte(part))
		}
		if b, err := chunked.Encode(parts, c.f); string(b) != c.want || err != nil {
			t.Errorf("Encode(%q, %q) = %q, %v; want %q", c.parts, c.f, b, err, c.want)
		}
		compareEncode(t, c.parts, c.f)
	}
	for _, parts := range [][]string{{repeat("a", 65536)}, {repeat("a", 65535), "", "b"}, slices.Repeat([]string{repeat("a", 256)}, 256), slices.Repeat([]string{"a"}, 4000)} {
		compareEncode(t, parts, nil)
		compareEncode(t, parts, of("Md", repeat("x", 2048)))
	}
}

func TestEncodeRefuses(t *testing.T) { // P7.1
	long := []string{repeat("a", 65537)}
	for _, c := range []struct {
		parts []string
		f     field.Fields
		want  error
	}{
		{long, nil, api.ErrLarge},
		{[]string{repeat("a", 65536), "", "b"}, nil, api.ErrLarge},
		{[]string{"b", repeat("a", 65536)}, nil, api.ErrLarge},
		{slices.Repeat([]string{repeat("a", 256)}, 257), nil, api.ErrLarge},
		// The size comes before the trailers.
		{long, of("host", "a"), api.ErrLarge},
		{long, slices.Repeat(of("a", "b"), 65), api.ErrLarge},
		{nil, of("", "a"), api.ErrTrailer},
		{nil, of("a b", "c"), api.ErrTrailer},
		{nil, of("a:", "c"), api.ErrTrailer},
		{nil, of(" a", "c"), api.ErrTrailer},
		{nil, of("a\r\n", "c"), api.ErrTrailer},
		{nil, of("\xe9", "c"), api.ErrTrailer},
		{nil, of(repeat("a", 65), "c"), api.ErrTrailer},
		{nil, of("a", " b"), api.ErrTrailer},
		{nil, of("a", "b\t"), api.ErrTrailer},
		{nil, of("a", " "), api.ErrTrailer},
		{nil, of("a", "b\r\nc: d"), api.ErrTrailer},
		{nil, of("a", "\x00"), api.ErrTrailer},
		{nil, of("a", "b\x7f"), api.ErrTrailer},
		{nil, of("a", repeat("b", 2049)), api.ErrTrailer},
		{nil, of("a", "b", "c", "\n"), api.ErrTrailer},
		{nil, of("a", "b", "Host", "c"), api.ErrTrailer},
		{[]string{"a"}, slices.Repeat(of("a", "b"), 65), api.ErrTrailer},
		{[]string{"a"}, slices.Repeat(of("a", "b"), 200), api.ErrTrailer},
	} {
		var parts [][]byte
		for _, part := range c.parts {
			parts = append(parts, []byte(part))
		}
		if b, err := chunked.Encode(parts, c.f); len(b) != 0 || err != c.want {
			t.Errorf("Encode(%.40q, %.200q) = %.40q, %v; want %v", c.parts, c.f, b, err, c.want)
		}
		if b, err := chunked.Last(c.f); c.want == api.ErrTrailer && (len(b) != 0 || err != c.want) {
			t.Errorf("Last(%.200q) = %.200q, %v", c.f, b, err)
		}
		compareEncode(t, c.parts, c.f)
	}
}

func TestLimitOfLast(t *testing.T) { // P7.1, P7.3
	for n := 8186; n <= 8196; n++ {
		// Each field takes 4 bytes more, and the end takes 2.
		f := slices.Repeat(of("b", repeat("c", 1595)), 4)
		f = append(f, of("D", repeat("e", n-4*1600-5-2))...)
		b, err := chunked.Last(f)
		if n <= 8192 && (len(b) != n+3 || err != nil) || n > 8192 && (len(b) != 0 || err != api.ErrTrailer) {
			t.Errorf("Last of %d bytes: %d, %v", n, len(b), err)
		}
		compareEncode(t, []string{"a"}, f)
	}
	for n := 62; n <= 67; n++ {
		f := slices.Repeat(of("A", "b"), n)
		b, err := chunked.Last(f)
		if n <= 64 && (len(b) != 3+6*n+2 || err != nil) || n > 64 && (len(b) != 0 || err != api.ErrTrailer) {
			t.Errorf("Last of %d fields: %d, %v", n, len(b), err)
		}
		compareEncode(t, []string{"a"}, f)
	}
}

func TestAllShortBodies(t *testing.T) { // P7.1, P7.2
	parts := []string{"0", "1", "2", "a", "G", ";", " ", "\r\n", "\r", "\n", "\x00"}
	for _, start := range []string{"", "1;", "1\r\n", "3\r\na", "1\r\na\r\n", "0"} {
		samples.Strings(4, parts, func(s string) { compare(t, start+s) })
	}
}

func TestAllShortTrailers(t *testing.T) { // P7.1, P7.2
	parts := []string{"a", "B", ":", " ", "\r\n", "\r", "\n", "host", "\t", "\x00", "\xff"}
	for _, start := range []string{"0\r\n", "0\r\nc:d\r\n"} {
		samples.Strings(5, parts[:8], func(s string) { compare(t, start+s) })
		samples.Strings(4, parts, func(s string) { compare(t, start+s+"\r\n\r\n") })
	}
}

// bodies are some that are accepted.
func bodies() []string {
	return []string{
		"0\r\n\r\n",
		"3\r\nabc\r\n0\r\n\r\n",
		"003;x=y\r\nabc\r\n000\r\n\r\n",
		"1\r\n\r\r\n0000000a;\r\n0123456789\r\n0;z\r\nA: 1\r\nb:2\r\n\r\n",
		"0\r\nX-Y:\r\nhosts: \t b \r\n\r\n",
	}
}

func TestEachByteAtEachPlace(t *testing.T) { // P7.1, P7.2
	for _, s := range bodies() {
		samples.Edits(s, func(s string) { compare(t, s) })
		for i := range len(s) {
			compareCuts(t, s[:i])
			compare(t, s[:i]+"\r\n"+s[i:])
			compare(t, s[i:])
		}
	}
}

func TestAllCutsIntoThree(t *testing.T) { // P7.2
	for _, s := range append(bodies(), "2\r\nab\n", "2\r\nab\r\n10000", "0\r\na:b\r\nhost:c\r\n\r\n", "0\r\na:b\r\n\r\nrest") {
		want := referenceDecode(s)
		for i := range len(s) + 1 {
			for j := i; j <= len(s); j++ {
				if got := decode(t, s[:i], s[i:j], s[j:]); !same(got, want) {
					t.Errorf("%q, cut at %d and %d: %v; want %v", s, i, j, got, want)
				}
			}
		}
	}
}

// someBody returns a body that is often accepted.
func someBody(random *rand.Rand) string {
	s := ""
	for range random.Intn(4) {
		data := repeat(some(random, "a", "\r\n", "0\r\n\r\n", "\x00", "\xff"), 1+random.Intn(9))
		size := fmt.Sprintf(some(random, "%x", "%X", "%04x", "%08x"), len(data))
		s += size + some(random, "", "", ";", ";a=b", "; \t\"\xff\"") + "\r\n" + data + "\r\n"
	}
	s += some(random, "0", "00", "00000000") + some(random, "", ";x") + "\r\n"
	for range random.Intn(4) {
		s += some(random, "a", "A-b", "X", "!", "hosts") + ":" + some(random, "", " ", "\t ") + some(random, "", "a", "c, d", "\xff", ":") + some(random, "", " ", " \t") + "\r\n"
	}
	return s + "\r\n"
}

func spoil(random *rand.Rand, s string) string {
	return samples.Spoil(random, s, "\r", "\n", "\r\n", "\x00", " ", ";", ":", "0", "1", "f", "g", "host", "\x7f", "\x80")
}

func TestRandomBodies(t *testing.T) { // P7.1, P7.2
	random := rand.New(rand.NewSource(7))
	for range 20000 {
		s := someBody(random)
		if got := decode(t, s); got.taken != len(s) || got.err != nil || !got.done {
			t.Errorf("%q: %v", s, got)
		}
		for _, s := range []string{s + some(random, followers...), spoil(random, s)} {
			want := referenceDecode(s)
			parts := samples.Cuts(random, s)
			if got := decode(t, parts...); !same(got, want) {
				t.Errorf("%.400q in parts: %v; want %v", parts, got, want)
			}
			if got := decode(t, s); !same(got, want) {
				t.Errorf("%.400q: %v; want %v", s, got, want)
			}
		}
	}
}

func TestRandomEncodings(t *testing.T) { // P7.1, P7.3
	random := rand.New(rand.NewSource(8))
	for range 3000 {
		var parts []string
		for range random.Intn(5) {
			parts = append(parts, repeat(some(random, "", "a", "\r\n", "0\r\n\r\n", "\x00\xff"), random.Intn(40)))
		}
		var f field.Fields
		for range random.Intn(4) {
			f = append(f, of(some(random, "a", "B", "x-Y", "Hosts", "md5", "trailer", "a b"), some(random, "", "a", "c, d", "a: b", "\xff", "a\tb", " a"))...)
		}
		compareEncode(t, parts, f)
	}
}

func TestBodiesOneAfterTheOther(t *testing.T) { // P7.3, and P2
	var s string
	for i := range 100 {
		b, err := chunked.Encode([][]byte{[]byte(repeat("a", i)), []byte(repeat("0\r\n\r\n", i))}, of("N", fmt.Sprint(i)))
		if err != nil {
			t.Fatal(err)
		}
		s += string(b)
	}
	for i := range 100 {
		got := decode(t, s)
		if got.body != repeat("a", i)+repeat("0\r\n\r\n", i) || !got.done || !slices.Equal(got.trailers, of("n", fmt.Sprint(i))) {
			t.Fatalf("body %d is %v", i, got)
		}
		s = s[got.taken:]
	}
	if s != "" {
		t.Errorf("%q is left", s)
	}
}

func FuzzChunks(f *testing.F) { // P7.1, P7.2, P7.3
	for _, s := range bodies() {
		f.Add(s, 3, "abc", "", "a", "1")
	}
	f.Add("10001", 1, "0\r\n\r\n", "\x00", "Host", " b")
	f.Fuzz(func(t *testing.T, s string, at int, one, two, name, value string) {
		for _, start := range []string{"", "1\r\na\r\n", "1;", "3\r\n", "0\r\n", "0\r\na:"} {
			compare(t, start+s)
			compare(t, start+s+"\r\n\r\n")
			if 0 <= at && at <= len(s) {
				if got, want := decode(t, start+s[:at], s[at:]), referenceDecode(start+s); !same(got, want) {
					t.Errorf("%.200q, cut at %d: %v; want %v", s, at, got, want)
				}
			}
		}
		compareEncode(t, []string{one, two}, of(name, value))
		compareEncode(t, []string{s}, of("a", value, name, "b"))
	})
}

func TestArgumentsAndResultsAreSeparate(t *testing.T) { // P1 with rule 3
	d := chunked.New()
	b := []byte("2\r\nab\r\n0\r\nc: d")
	body, _, _ := d.Write(b)
	clear(b)
	if string(body) != "ab" {
		t.Errorf("the body shares memory with the argument: %q", body)
	}
	clear(body[:cap(body)])
	rest := []byte("e\r\nF: g\r\n\r\n")
	d.Write(rest)
	clear(rest)
	want := of("c", "de", "f", "g")
	first := d.Trailers()
	if !slices.Equal(first, want) {
		t.Errorf("the trailers are %q", first)
	}
	clear(first[:cap(first)])
	if second := d.Trailers(); !slices.Equal(second, want) {
		t.Errorf("the trailers share memory: %q", second)
	}

	data := append(make([]byte, 0, 9), "abc"...)
	chunk := chunked.Chunk(data)
	parts := [][]byte{data[:2], data[2:]}
	f := append(make(field.Fields, 0, 9), of("C", "d")...)
	kept := slices.Clone(f[:9])
	last, _ := chunked.Last(f)
	all, _ := chunked.Encode(parts, f)
	again, _ := chunked.Encode(parts, f)
	if !slices.Equal(f[:9], kept) || !bytes.Equal(data[:9], []byte("abc\x00\x00\x00\x00\x00\x00")) || len(parts[0]) != 2 || len(parts[1]) != 1 {
		t.Errorf("the arguments were changed to %q, %q, %q", data[:9], parts, f[:9])
	}
	clear(data)
	clear(f)
	clear(all[:cap(all)])
	if string(chunk) != "3\r\nabc\r\n" || string(last) != "0\r\nc: d\r\n\r\n" || string(again) != "2\r\nab\r\n1\r\nc\r\n0\r\nc: d\r\n\r\n" {
		t.Errorf("what is written shares memory: %q, %q, %q", chunk, last, again)
	}
}

func TestLongInputs(t *testing.T) { // P1
	const n = 1 << 20
	for _, s := range []string{"0", "1", "f", ";", "\r\n", "\r", "\n", "a: b\r\n", "1\r\na\r\n", "0\r\n", "\x00"} {
		long := repeat(s, n)
		for _, start := range []string{"", "1;", "5\r\n", "0\r\n", "0\r\na:", "10000\r\n"} {
			if got := decode(t, start+long); got.err == nil && !got.done || got.taken > 1<<19 {
				t.Errorf("%q and many times %q: %v", start, s, got)
			}
		}
		if got := decode(t, "0\r\n\r\n"+long); !same(got, outcome{"", 5, nil, true, nil}) {
			t.Errorf("a body and many times %q: %v", s, got)
		}
		for _, f := range []field.Fields{of(long, "a"), of("a", long), slices.Repeat(of("a", s), n)} {
			if b, err := chunked.Last(f); len(b) != 0 || err != api.ErrTrailer {
				t.Errorf("Last with many times %q: %.40q, %v", s, b, err)
			}
		}
	}
	part := make([]byte, n)
	if b, err := chunked.Encode(slices.Repeat([][]byte{part}, n), nil); len(b) != 0 || err != api.ErrLarge {
		t.Errorf("Encode of many long parts: %.40q, %v", b, err)
	}
	if b, err := chunked.Encode(make([][]byte, n), nil); string(b) != "0\r\n\r\n" || err != nil {
		t.Errorf("Encode of many empty parts: %.40q, %v", b, err)
	}
}
