package ranges_test

import (
	"bytes"
	"fmt"
	"math/rand"
	"slices"
	"strings"
	"testing"

	"quayside/api"
	"quayside/ranges"
	"quayside/samples"
)

// text returns the lines, each ended by CR LF.
func text(lines ...string) string {
	return strings.Join(append(lines, ""), "\r\n")
}

// part returns a part with its range and bytes.
func part(from, to int, data string) ranges.Part {
	return ranges.Part{Range: one(from, to), Data: []byte(data)}
}

func sameParts(a, b []ranges.Part) bool {
	return slices.EqualFunc(a, b, func(x, y ranges.Part) bool {
		return x.Range == y.Range && bytes.Equal(x.Data, y.Data)
	})
}

// compareMultipart also checks P9.2.
func compareMultipart(t *testing.T, boundary, kind string, list []ranges.Range, body string) {
	t.Helper()
	b, err := ranges.Multipart(boundary, kind, list, []byte(body))
	if want, e := referenceMultipart(boundary, kind, list, body); string(b) != want || err != e {
		t.Errorf("Multipart(%.60q, %.60q, %v, %.200q) = %.500q, %v; want %.500q, %v", boundary, kind, list, body, b, err, want, e)
	}
	if err != nil {
		return
	}
	var parts []ranges.Part
	for _, r := range list {
		parts = append(parts, part(r.From, r.To, body[r.From:r.To]))
	}
	got, n, err := ranges.ReadMultipart(boundary, b)
	if !sameParts(got, parts) || n != len(body) || err != nil {
		t.Errorf("ReadMultipart(%q, %.500q) = %v, %d, %v", boundary, b, got, n, err)
	}
}

func compareReadMultipart(t *testing.T, boundary, s string) {
	t.Helper()
	got, n, err := ranges.ReadMultipart(boundary, []byte(s))
	if want, length, e := referenceReadMultipart(boundary, s); !sameParts(got, want) || n != length || err != e {
		t.Errorf("ReadMultipart(%.60q, %.500q) = %.200v, %d, %v; want %.200v, %d, %v", boundary, s, got, n, err, want, length, e)
	}
}

func TestMultipart(t *testing.T) { // P9.1, P9.2
	for _, c := range []struct {
		boundary, kind string
		list           []ranges.Range
		body, want     string
	}{
		{"x", "a/b", of(1, 3), "hello", text("--x", "Content-Type: a/b", "Content-Range: bytes 1-2/5", "", "el", "--x--")},
		{"B1", "text/plain; charset=utf-8", of(4, 5, 0, 2), "hello", text("--B1", "Content-Type: text/plain; charset=utf-8", "Content-Range: bytes 4-4/5", "", "o", "--B1", "Content-Type: text/plain; charset=utf-8", "Content-Range: bytes 0-1/5", "", "he", "--B1--")},
		// Ranges that overlap or stand twice.
		{"0", "a", of(0, 5, 1, 2, 1, 2), "hello", text("--0", "Content-Type: a", "Content-Range: bytes 0-4/5", "", "hello", "--0", "Content-Type: a", "Content-Range: bytes 1-1/5", "", "e", "--0", "Content-Type: a", "Content-Range: bytes 1-1/5", "", "e", "--0--")},
		// Kinds that are canonical values, though no types of media.
		{"x", "", of(0, 1), "a", text("--x", "Content-Type: ", "Content-Range: bytes 0-0/1", "", "a", "--x--")},
		{"x", "a\tb \xff", of(0, 1), "a", text("--x", "Content-Type: a\tb \xff", "Content-Range: bytes 0-0/1", "", "a", "--x--")},
		// Only the body must not have the boundary.
		{"x", "--x--x", of(0, 1), "a", text("--x", "Content-Type: --x--x", "Content-Range: bytes 0-0/1", "", "a", "--x--")},
		{"bytes", "Content", of(0, 1), "a", text("--bytes", "Content-Type: Content", "Content-Range: bytes 0-0/1", "", "a", "--bytes--")},
		{"1", "1", of(10, 11), "abcdefghijklmn", text("--1", "Content-Type: 1", "Content-Range: bytes 10-10/14", "", "k", "--1--")},
		{"X", "a", of(0, 3), "xxx", text("--X", "Content-Type: a", "Content-Range: bytes 0-2/3", "", "xxx", "--X--")},
		// Bodies that look like what is around them.
		{"x", "a", of(0, 2, 2, 4), "\r\n\r\n", text("--x", "Content-Type: a", "Content-Range: bytes 0-1/4", "", "\r\n", "--x", "Content-Type: a", "Content-Range: bytes 2-3/4", "", "\r\n", "--x--")},
		{"x", "a", of(0, 4), "----", text("--x", "Content-Type: a", "Content-Range: bytes 0-3/4", "", "----", "--x--")},
		{"x", "a", of(0, 6), "\r\n--y\n", text("--x", "Content-Type: a", "Content-Range: bytes 0-5/6", "", "\r\n--y\n", "--x--")},
		{"xy", "a", of(0, 3), "\x00x\xff", text("--xy", "Content-Type: a", "Content-Range: bytes 0-2/3", "", "\x00x\xff", "--xy--")},
	} {
		if b, err := ranges.Multipart(c.boundary, c.kind, c.list, []byte(c.body)); string(b) != c.want || err != nil {
			t.Errorf("Multipart(%q, %q, %v, %q) = %q, %v; want %q", c.boundary, c.kind, c.list, c.body, b, err, c.want)
		}
		compareMultipart(t, c.boundary, c.kind, c.list, c.body)
		compareReadMultipart(t, c.boundary, c.want)
	}
}

func TestMultipartRefuses(t *testing.T) { // P9.1
	for _, c := range []struct {
		boundary, kind string
		list           []ranges.Range
		body           string
		want           error
	}{
		{"", "a", of(0, 1), "hello", api.ErrForm},
		{"", "a", of(0, 1), "", api.ErrForm},
		{repeat("a", 41), "a", of(0, 1), "hello", api.ErrForm},
		{"x y", "a", of(0, 1), "hello", api.ErrForm},
		{"--x", "a", of(0, 1), "hello", api.ErrForm},
		{"x-", "a", of(0, 1), "hello", api.ErrForm},
		{"\u00e9", "a", of(0, 1), "hello", api.ErrForm},
		{"l", "a", of(1, 3), "hello", api.ErrForm},
		{"l", "a", of(0, 1), "hello", api.ErrForm}, // not in the range, but in the body
		{"h", "a", of(1, 3), "hello", api.ErrForm},
		{"o", "a", of(1, 3), "hello", api.ErrForm},
		{"hello", "a", of(1, 3), "hello", api.ErrForm},
		{"ell", "a", of(0, 2, 2, 5), "hello", api.ErrForm},
		{"x", " a", of(0, 1), "hello", api.ErrForm},
		{"x", "a ", of(0, 1), "hello", api.ErrForm},
		{"x", "a\t", of(0, 1), "hello", api.ErrForm},
		{"x", "\t", of(0, 1), "hello", api.ErrForm},
		{"x", "a\r\nb", of(0, 1), "hello", api.ErrForm},
		{"x", "a\x00", of(0, 1), "hello", api.ErrForm},
		{"x", "\x7f", of(0, 1), "hello", api.ErrForm},
		{"x", repeat("a", 2049), of(0, 1), "hello", api.ErrForm},
		{"x", "a", nil, "hello", api.ErrRange},
		{"x", "a", of(), "", api.ErrRange},
		{"x", "a", of(0, 0), "hello", api.ErrRange},
		{"x", "a", of(0, 0), "", api.ErrRange},
		{"x", "a", of(0, 1), "", api.ErrRange},
		{"x", "a", of(3, 2), "hello", api.ErrRange},
		{"x", "a", of(5, 5), "hello", api.ErrRange},
		{"x", "a", of(-1, 2), "hello", api.ErrRange},
		{"x", "a", of(-2, -1), "hello", api.ErrRange},
		{"x", "a", of(1, 6), "hello", api.ErrRange},
		{"x", "a", of(5, 6), "hello", api.ErrRange},
		{"x", "a", of(lowest, highest), "hello", api.ErrRange},
		{"x", "a", of(highest, lowest), "hello", api.ErrRange},
		{"x", "a", of(0, highest), "hello", api.ErrRange},
		{"x", "a", of(0, 5, 2, 2), "hello", api.ErrRange},
		{"x", "a", of(0, 6, 0, 5), "hello", api.ErrRange},
		{"x", "a", of(0, 5, 0, 5, 4, 6, 0, 5), "hello", api.ErrRange},
		// The form comes before the ranges.
		{"", "a", nil, "hello", api.ErrForm},
		{"-", "a", of(0, 6), "hello", api.ErrForm},
		{"l", "a", of(0, 6), "hello", api.ErrForm},
		{"x", "a\n", of(5, 5), "hello", api.ErrForm},
		{"x", repeat("a", 2049), nil, "hello", api.ErrForm},
	} {
		if b, err := ranges.Multipart(c.boundary, c.kind, c.list, []byte(c.body)); len(b) != 0 || err != c.want {
			t.Errorf("Multipart(%q, %.60q, %v, %q) = %q, %v; want %v", c.boundary, c.kind, c.list, c.body, b, err, c.want)
		}
		compareMultipart(t, c.boundary, c.kind, c.list, c.body)
	}
}

func TestBoundaries(t *testing.T) { // P9.1, P9.2
	long := "0123456789abcdefghijABCDEFGHIJklmnopqrst"
	for n := range len(long) + 1 {
		body := "--" + long[:n/2] + "-" + long[n/2:n]
		compareMultipart(t, long[:n], "a", of(0, 1, 1, 2), body)
		compareMultipart(t, long[:n], "a", of(0, 1, 1, 2), body+long[:n])
		compareReadMultipart(t, long[:n], write(long[:n], "a", []ranges.Part{part(0, 1, "-")}, 1))
	}
	if _, err := ranges.Multipart(long, "a", of(0, 1), []byte("a")); err != nil {
		t.Errorf("a boundary of %d bytes: %v", len(long), err)
	}
	if _, _, err := ranges.ReadMultipart(long+"u", []byte(write(long+"u", "a", []ranges.Part{part(0, 1, "-")}, 1))); err != api.ErrForm {
		t.Errorf("a boundary of %d bytes is read: %v", len(long)+1, err)
	}
	const good = "0123456789ABCDEFGHIJKLMNOPQRSTUVWXYZabcdefghijklmnopqrstuvwxyz"
	for c := range 256 {
		s := string([]byte{byte(c)})
		for _, boundary := range []string{s, "ab" + s, s + "ab", "a" + s + "b"} {
			_, err := ranges.Multipart(boundary, "a", of(0, 1), []byte("-"))
			_, _, err2 := ranges.ReadMultipart(boundary, []byte(write(boundary, "a", []ranges.Part{part(0, 1, "*")}, 1)))
			if ok := err == nil && err2 == nil; ok != strings.Contains(good, s) || !ok && (err != api.ErrForm || err2 != api.ErrForm) {
				t.Errorf("the boundary %q: %v, %v", boundary, err, err2)
			}
		}
	}
}

func TestKindsOfParts(t *testing.T) { // P9.1, P9.2
	parts := []ranges.Part{part(0, 1, "a"), part(0, 2, "ab")}
	check := func(kind string, good bool) {
		_, err := ranges.Multipart("x", kind, of(0, 1, 0, 2), []byte("ab"))
		_, _, err2 := ranges.ReadMultipart("x", []byte(write("x", kind, parts, 2)))
		if good && (err != nil || err2 != nil) || !good && (err != api.ErrForm || err2 != api.ErrForm) {
			t.Errorf("the kind %.60q: %v, %v", kind, err, err2)
		}
		compareMultipart(t, "x", kind, of(0, 1, 0, 2), "ab")
		compareReadMultipart(t, "x", write("x", kind, parts, 2))
	}
	for c := range 256 {
		s := string([]byte{byte(c)})
		control := c < 32 && c != 9 || c == 127
		blank := c == 9 || c == 32
		check("a"+s+"b", !control)
		check("a"+s, !control && !blank)
		check(s+"a", !control && !blank)
		check(s, !control && !blank)
	}
	check(repeat("a", 2048), true)
	check(repeat("a", 2049), false)
	check(" "+repeat("a", 2047), false)
	check("", true)
}

func TestReadMultipart(t *testing.T) { // P9.1
	for _, c := range []struct {
		boundary, s string
		want        []ranges.Part
		length      int
	}{
		{"x", text("--x", "Content-Type: a/b", "Content-Range: bytes 1-2/5", "", "el", "--x--"), []ranges.Part{part(1, 3, "el")}, 5},
		// In any order, and overlapping with different bytes.
		{"x", text("--x", "Content-Type: a", "Content-Range: bytes 3-4/5", "", "ab", "--x", "Content-Type: a", "Content-Range: bytes 0-3/5", "", "cdef", "--x--"), []ranges.Part{part(3, 5, "ab"), part(0, 4, "cdef")}, 5},
		{"x", text("--x", "Content-Type: a", "Content-Range: bytes 0-0/5", "", "a", "--x", "Content-Type: a", "Content-Range: bytes 0-0/5", "", "b", "--x--"), []ranges.Part{part(0, 1, "a"), part(0, 1, "b")}, 5},
		// The boundary is none where it begins in one part and ends in another.
		{"ab", text("--ab", "Content-Type: a", "Content-Range: bytes 0-0/2", "", "a", "--ab", "Content-Type: a", "Content-Range: bytes 1-1/2", "", "b", "--ab--"), []ranges.Part{part(0, 1, "a"), part(1, 2, "b")}, 2},
		// A body of any length.
		{"x", text("--x", "Content-Type: a", "Content-Range: bytes 999999999999997-999999999999998/999999999999999", "", "ab", "--x--"), []ranges.Part{part(most-2, most, "ab")}, most},
		// The bytes of a part are as many as its range has, whatever they are.
		{"x", text("--x", "Content-Type: a", "Content-Range: bytes 0-1/5", "", "\r\n", "--x--"), []ranges.Part{part(0, 2, "\r\n")}, 5},
		{"x", text("--x", "Content-Type: a", "Content-Range: bytes 0-6/7", "", "\r\n--y\r\n", "--x--"), []ranges.Part{part(0, 7, "\r\n--y\r\n")}, 7},
		{"1", text("--1", "Content-Type: 1", "Content-Range: bytes 1-1/11", "", "a", "--1--"), []ranges.Part{part(1, 2, "a")}, 11},
		{"Type", text("--Type", "Content-Type: Type", "Content-Range: bytes 0-3/4", "", "type", "--Type--"), []ranges.Part{part(0, 4, "type")}, 4},
	} {
		got, n, err := ranges.ReadMultipart(c.boundary, []byte(c.s))
		if !sameParts(got, c.want) || n != c.length || err != nil {
			t.Errorf("ReadMultipart(%q, %q) = %v, %d, %v; want %v, %d", c.boundary, c.s, got, n, err, c.want, c.length)
		}
		compareReadMultipart(t, c.boundary, c.s)
	}
}

// With the boundary x, good is what Multipart writes of part 1-2/5, and some
// begins with a part to which another one may be added.
var (
	lines = []string{"--x", "Content-Type: a", "Content-Range: bytes 1-2/5", "", "el"}
	good  = text(append(slices.Clone(lines), "--x--")...)
	start = text(lines...)
)

func TestReadMultipartRefuses(t *testing.T) { // P9.1
	for _, s := range []string{
		"", "\r\n", "--x", "--x--", "--x--\r\n", "--x\r\n", "--x\r\n--x--\r\n", "x",
		// The end.
		start, start + "--x--", start + "--x--\r", start + "--x--\n", start + "--x-\r\n", start + "--x\r\n", start + "--x--\r\n\r\n", start + "--x--\r\nrest", start + "--x--x\r\n", start + "--x-- \r\n", start + "--X--\r\n", start + "--y--\r\n", start + "----\r\n", start + "\r\n--x--\r\n", good + good, good + "--x--\r\n",
		// What is before the first part.
		"\r\n" + good, " " + good, "preamble\r\n" + good, good[1:], good[2:], "-" + good,
		// Lines.
		text("--x ", "Content-Type: a", "Content-Range: bytes 1-2/5", "", "el", "--x--"),
		text("--X", "Content-Type: a", "Content-Range: bytes 1-2/5", "", "el", "--x--"),
		text("--xx", "Content-Type: a", "Content-Range: bytes 1-2/5", "", "el", "--x--"),
		text("--x", "content-type: a", "Content-Range: bytes 1-2/5", "", "el", "--x--"),
		text("--x", "Content-Type:a", "Content-Range: bytes 1-2/5", "", "el", "--x--"),
		text("--x", "Content-Type:  a", "Content-Range: bytes 1-2/5", "", "el", "--x--"),
		text("--x", "Content-Type: a ", "Content-Range: bytes 1-2/5", "", "el", "--x--"),
		text("--x", "Content-Type:", "Content-Range: bytes 1-2/5", "", "el", "--x--"),
		text("--x", "Content-Type: a\rb", "Content-Range: bytes 1-2/5", "", "el", "--x--"),
		text("--x", "Content-Type: a\nb", "Content-Range: bytes 1-2/5", "", "el", "--x--"),
		text("--x", "Content-Type: a\x00", "Content-Range: bytes 1-2/5", "", "el", "--x--"),
		text("--x", "Content-Type: "+repeat("a", 2049), "Content-Range: bytes 1-2/5", "", "el", "--x--"),
		text("--x", "Content-Type: a", "content-range: bytes 1-2/5", "", "el", "--x--"),
		text("--x", "Content-Type: a", "Content-Range:bytes 1-2/5", "", "el", "--x--"),
		text("--x", "Content-Type: a", "Content-Range: bytes 1-2/5 ", "", "el", "--x--"),
		text("--x", "Content-Type: a", "Content-Range: bytes=1-2/5", "", "el", "--x--"),
		text("--x", "Content-Type: a", "Content-Range: bytes 1-2/*", "", "el", "--x--"),
		text("--x", "Content-Type: a", "Content-Range: bytes 01-2/5", "", "el", "--x--"),
		text("--x", "Content-Type: a", "Content-Range: bytes 1-2/2", "", "el", "--x--"),
		text("--x", "Content-Type: a", "Content-Range: bytes 2-1/5", "", "", "--x--"),
		text("--x", "Content-Type: a", "Content-Range: ", "", "el", "--x--"),
		text("--x", "Content-Range: bytes 1-2/5", "Content-Type: a", "", "el", "--x--"),
		text("--x", "Content-Type: a", "", "el", "--x--"),
		text("--x", "Content-Range: bytes 1-2/5", "", "el", "--x--"),
		text("--x", "Content-Type: a", "Content-Range: bytes 1-2/5", "el", "--x--"),
		text("--x", "Content-Type: a", "Content-Range: bytes 1-2/5", "A: b", "", "el", "--x--"),
		text("--x", "A: b", "Content-Type: a", "Content-Range: bytes 1-2/5", "", "el", "--x--"),
		text("--x", "Content-Type: a", "Content-Type: a", "Content-Range: bytes 1-2/5", "", "el", "--x--"),
		text("--x", "", "Content-Type: a", "Content-Range: bytes 1-2/5", "", "el", "--x--"),
		text("--x", "Content-Type: a", "Content-Range: bytes 1-2/5", " ", "el", "--x--"),
		strings.ReplaceAll(good, "\r\n", "\n"), strings.ReplaceAll(good, "\r\n", "\r"), strings.ReplaceAll(good, "\r\n", "\n\r"),
		// Bytes.
		text("--x", "Content-Type: a", "Content-Range: bytes 1-2/5", "", "e", "--x--"),
		text("--x", "Content-Type: a", "Content-Range: bytes 1-2/5", "", "ell", "--x--"),
		text("--x", "Content-Type: a", "Content-Range: bytes 1-2/5", "", "", "el", "--x--"),
		text("--x", "Content-Type: a", "Content-Range: bytes 1-2/5", "", "el", "", "--x--"),
		text("--x", "Content-Type: a", "Content-Range: bytes 1-2/5", "", "x1", "--x--"),
		text("--x", "Content-Type: a", "Content-Range: bytes 1-2/5", "", "1x", "--x--"),
		text("--x", "Content-Type: a", "Content-Range: bytes 1-3/5", "", "\r\nx", "--x--"),
		text("--x", "Content-Type: a", "Content-Range: bytes 0-999999999999997/999999999999999", "", "el", "--x--"),
		text("--x", "Content-Type: a", "Content-Range: bytes 0-9/10", "", "el", "--x--"),
		text("--x", "Content-Type: a", "Content-Range: bytes 0-8/10", "", "el", "--x--"),
		text("--x", "Content-Type: a", "Content-Range: bytes 0-10/20", "", "el", "--x--"),
		// Two parts.
		start + text("--x", "Content-Type: b", "Content-Range: bytes 1-2/5", "", "el", "--x--"),
		start + text("--x", "Content-Type: A", "Content-Range: bytes 1-2/5", "", "el", "--x--"),
		start + text("--x", "Content-Type: ", "Content-Range: bytes 1-2/5", "", "el", "--x--"),
		start + text("--x", "Content-Type: a", "Content-Range: bytes 1-2/6", "", "el", "--x--"),
		start + text("--x", "Content-Type: a", "Content-Range: bytes 1-2/4", "", "el", "--x--"),
		start + text("--x", "Content-Type: a", "Content-Range: bytes 1-2/5", "", "ex", "--x--"),
		start + text("--x", "Content-Type: a", "Content-Range: bytes 1-2/5", "", "e", "--x--"),
		start + text("--y", "Content-Type: a", "Content-Range: bytes 1-2/5", "", "el", "--x--"),
		start + start + text("--x", "Content-Type: b", "Content-Range: bytes 1-2/5", "", "el", "--x--"),
		start + start + text("--x", "Content-Type: a", "Content-Range: bytes 1-2/6", "", "el", "--x--"),
		start + "\r\n" + good, start + "--x--\r\n" + good, start[:len(start)-2] + good, start + "--x\r\n" + good,
	} {
		if got, n, err := ranges.ReadMultipart("x", []byte(s)); len(got) != 0 || n != 0 || err != api.ErrForm {
			t.Errorf("ReadMultipart(%q) = %v, %d, %v; want ErrForm", s, got, n, err)
		}
		compareReadMultipart(t, "x", s)
	}
	for _, boundary := range []string{"", "X", "y", "xx", "x ", "-x", "-", "--x", "x--", "x\r\n", "\x00", repeat("x", 41)} {
		if got, n, err := ranges.ReadMultipart(boundary, []byte(good)); len(got) != 0 || n != 0 || err != api.ErrForm {
			t.Errorf("ReadMultipart(%q) = %v, %d, %v; want ErrForm", boundary, got, n, err)
		}
		s := strings.ReplaceAll(good, "--x", "--"+boundary)
		compareReadMultipart(t, boundary, s)
	}
}

func TestManyParts(t *testing.T) { // P9.1, P9.2
	body := repeat("hello, ", 20)
	for n := 1; n <= 50; n++ {
		var list []ranges.Range
		for i := range n {
			list = append(list, one(n-i-1, 2*n-i))
		}
		compareMultipart(t, "x", "a", list, body)
	}
}

func TestAllShortMultiparts(t *testing.T) { // P9.1
	check := func(s string) { compareReadMultipart(t, "x", s) }
	samples.Strings(5, []string{start, text("--x"), "--x", "--", "\r\n", text("Content-Type: a"), text("Content-Range: bytes 0-0/5", ""), "e", text("--x--")}, check)
	samples.Strings(7, []string{"el", "\r\n", "--", "x", start}, func(s string) {
		check(s)
		check(text(lines[:4]...) + s)
		check(text(lines[:4]...) + s + "\r\n--x--\r\n")
	})
}

func TestAllSmallMultiparts(t *testing.T) { // P9.1, P9.2
	for _, body := range []string{"", "a", "hel", "h--x"} {
		for _, x := range all(-1, 5) {
			compareMultipart(t, "x", "a", []ranges.Range{x}, body)
			compareMultipart(t, "y", "a", []ranges.Range{x}, body)
			for _, y := range all(-1, 5) {
				compareMultipart(t, "y", "a", []ranges.Range{x, y}, body)
			}
		}
	}
}

func TestEachByteAtEachPlaceOfMultiparts(t *testing.T) { // P9.1
	for _, s := range []string{good, start + text("--x", "Content-Type: a", "Content-Range: bytes 0-0/5", "", "h", "--x--")} {
		samples.Edits(s, func(s string) { compareReadMultipart(t, "x", s) })
		for i := range s {
			compareReadMultipart(t, "x", s[:i])
			compareReadMultipart(t, "x", s[i:])
			compareReadMultipart(t, "x", s+s[:i])
		}
	}
}

func someBody(random *rand.Rand) string {
	s := ""
	for range random.Intn(30) {
		s += samples.Some(random, "a", "b", "abc", "\r\n", "--", "--ab\r\n", "ab", "\x00", repeat("hello", 30))
	}
	return s
}

func TestRandomMultiparts(t *testing.T) { // P9.1, P9.2
	random := rand.New(rand.NewSource(2))
	for range 20000 {
		body := someBody(random)
		list := of(0, len(body), 0, 1+len(body)/2)
		for range random.Intn(5) {
			from := random.Intn(len(body) + 1)
			list = append(list, one(from, from+random.Intn(len(body)-from+1)))
		}
		list = list[random.Intn(2):]
		boundary := samples.Some(random, "x", "x1", "abca", "ab", repeat("a", 40), "", "a-b")
		kind := samples.Some(random, "a/b", "text/plain; charset=\"x\"", "x", "")
		compareMultipart(t, boundary, kind, list, body)
		b, err := ranges.Multipart(boundary, kind, list, []byte(body))
		if err == nil {
			compareReadMultipart(t, boundary, samples.Spoil(random, string(b), "-", "\r\n", "\n", "a", boundary, "0", " "))
		}
	}
}

func TestRandomParts(t *testing.T) { // P9.1
	random := rand.New(rand.NewSource(3))
	for range 20000 {
		var parts []ranges.Part
		length := 1 + random.Intn(200)
		for range 1 + random.Intn(4) {
			from := random.Intn(length)
			to := from + 1 + random.Intn(length-from)
			data := repeat(samples.Some(random, "abc", "-", "\r\n--", "--x", "x\r\n"), to)[:to-from]
			if random.Intn(20) == 0 {
				data = data[1:]
			}
			parts = append(parts, part(from, to, data))
		}
		s := write("x", "a/b", parts, length)
		compareReadMultipart(t, "x", s)
		compareReadMultipart(t, "x", strings.Replace(s, "a/b", "a/c", random.Intn(3)))
		compareReadMultipart(t, "x", strings.Replace(s, fmt.Sprintf("/%d\r", length), fmt.Sprintf("/%d\r", length+random.Intn(3)), random.Intn(3)))
	}
}

func FuzzMultipart(f *testing.F) { // P9.1, P9.2
	f.Add("x", "a/b", "hello", 1, 3, good)
	f.Add("ab", "", "aab", 0, 4, text("--ab", "Content-Type: a", "Content-Range: bytes 0-0/2", "", "a", "--ab", "Content-Type: a", "Content-Range: bytes 1-1/2", "", "b", "--ab--"))
	f.Add("", " ", "\r\n", -1, 1, "--x--\r\n")
	f.Fuzz(func(t *testing.T, boundary, kind, body string, from, to int, s string) {
		compareReadMultipart(t, boundary, s)
		list := of(from, to, 0, len(body))
		compareMultipart(t, boundary, kind, list, body)
		compareMultipart(t, boundary, kind, list[1:], body)
		parts := []ranges.Part{part(from, to, body), part(0, len(body), body)}
		compareReadMultipart(t, boundary, write(boundary, kind, parts, to))
		compareReadMultipart(t, boundary, write(boundary, kind, parts[1:], max(from, len(body))))
	})
}

func TestMultipartKeepsItsArguments(t *testing.T) { // P1 with rule 3
	body := append(make([]byte, 0, 100), "hello"...)
	list := of(1, 3, 0, 5)
	b, err := ranges.Multipart("x", "a", list, body)
	if string(body[:10]) != "hello\x00\x00\x00\x00\x00" || !slices.Equal(list, of(1, 3, 0, 5)) || err != nil {
		t.Errorf("the arguments are %q, %v, %v", body[:10], list, err)
	}
	kept := string(b)
	clear(body)
	clear(list)
	if string(b) != kept {
		t.Errorf("the result shares memory: %q", b)
	}
	parts, _, err := ranges.ReadMultipart("x", b)
	if string(b) != kept || len(parts) != 2 || err != nil {
		t.Errorf("ReadMultipart = %v, %v and leaves %q", parts, err, b)
	}
	clear(b)
	first := parts[0].Data
	clear(first[:cap(first)])
	if string(parts[1].Data) != "hello" {
		t.Errorf("the parts share memory: %v", parts)
	}
}

func TestLongMultiparts(t *testing.T) { // P1
	const n = 1 << 20
	body := []byte(repeat("a\r\n--b", n/6))
	list := append(slices.Repeat(of(5, 6), n/100), one(0, len(body)))
	b, err := ranges.Multipart("x", "a", list, body)
	if err != nil {
		t.Fatal(err)
	}
	parts, length, err := ranges.ReadMultipart("x", b)
	if len(parts) != len(list) || length != len(body) || err != nil {
		t.Errorf("ReadMultipart returns %d parts, %d, %v", len(parts), length, err)
	}
	for _, s := range []string{"--x", "--x\r\n", "\r\n", start, text(lines[:4]...), "x"} {
		for _, head := range []string{"", "--x\r\nContent-Type: ", start, text("--x", "Content-Type: a", "Content-Range: bytes 0-999999/2000000", "")} {
			if _, _, err := ranges.ReadMultipart("x", []byte(head+repeat(s, n/len(s)))); err != api.ErrForm {
				t.Errorf("%q and many times %q: %v", head, s, err)
			}
		}
	}
}
