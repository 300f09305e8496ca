package ranges_test

import (
	"fmt"
	"math"
	"math/rand"
	"slices"
	"strings"
	"testing"

	"quayside/api"
	"quayside/ranges"
	"quayside/samples"
)

// The greatest number of 15 digits, and the greatest and the least of all.
const (
	most    = 999999999999999
	highest = math.MaxInt
	lowest  = math.MinInt
)

// someLengths are lengths of bodies.
var someLengths = []int{lowest, -1, 0, 1, 2, 3, 5, 10, 255, 256, 257, 65535, 65536, 65537, most - 1, most, most + 1, highest}

func repeat(s string, n int) string {
	return strings.Repeat(s, n)
}

// of returns the ranges with the ends given in turn.
func of(ends ...int) []ranges.Range {
	var list []ranges.Range
	for i := 0; i+1 < len(ends); i += 2 {
		list = append(list, ranges.Range{From: ends[i], To: ends[i+1]})
	}
	return list
}

// one returns the range with the ends.
func one(from, to int) ranges.Range {
	return ranges.Range{From: from, To: to}
}

func compareParse(t *testing.T, s string, length int) {
	t.Helper()
	got, err := ranges.Parse(s, length)
	if want, e := referenceParse(s, length); !slices.Equal(got, want) || err != e {
		t.Errorf("Parse(%.200q, %d) = %v, %v; want %v, %v", s, length, got, err, want, e)
	}
}

// compareList checks what is done with a list of ranges, and P9.2 and P9.3.
func compareList(t *testing.T, list []ranges.Range) {
	t.Helper()
	kept := slices.Clone(list)
	s, err := ranges.Format(list)
	if want, e := referenceFormat(list); s != want || err != e {
		t.Errorf("Format(%v) = %q, %v; want %q, %v", list, s, err, want, e)
	}
	if err == nil && len(list) <= 8 {
		keepFormat(t, list, s)
	}
	merged := ranges.Merge(list)
	if want := referenceMerge(list); !slices.Equal(merged, want) {
		t.Errorf("Merge(%v) = %v; want %v", list, merged, want)
	}
	for i, r := range merged {
		if r.From >= r.To || i > 0 && r.From <= merged[i-1].To || !ranges.Cover(list, r) {
			t.Errorf("Merge(%v) = %v", list, merged)
		}
	}
	for _, r := range list {
		if !ranges.Cover(merged, r) || !ranges.Cover(list, r) {
			t.Errorf("Merge(%v) = %v lacks offsets of %v", list, merged, r)
		}
	}
	if !slices.Equal(list, kept) {
		t.Errorf("the list %v was changed to %v", kept, list)
	}
}

// keepFormat checks P9.2 for a list of proper ranges, of which s was made.
func keepFormat(t *testing.T, list []ranges.Range, s string) {
	t.Helper()
	last := 0
	for _, r := range list {
		last = max(last, r.To)
	}
	for _, length := range []int{last, last + 1, highest} {
		if got, err := ranges.Parse(s, length); !slices.Equal(got, list) || err != nil {
			t.Errorf("Parse(%q, %d) = %v, %v; want %v", s, length, got, err, list)
		}
	}
}

func compareCover(t *testing.T, list []ranges.Range, r ranges.Range) {
	t.Helper()
	if got := ranges.Cover(list, r); got != referenceCover(list, r) {
		t.Errorf("Cover(%v, %v) = %v", list, r, got)
	}
}

func compareContentRange(t *testing.T, r ranges.Range, length int) {
	t.Helper()
	s, err := ranges.ContentRange(r, length)
	if want, e := referenceContentRange(r, length); s != want || err != e {
		t.Errorf("ContentRange(%v, %d) = %q, %v; want %q, %v", r, length, s, err, want, e)
	}
	if err != nil {
		return
	}
	if again, n, err := ranges.ReadContentRange(s); again != r || n != length || err != nil {
		t.Errorf("ReadContentRange(%q) = %v, %d, %v; want %v, %d", s, again, n, err, r, length)
	}
}

func compareReadContentRange(t *testing.T, s string) {
	t.Helper()
	r, n, err := ranges.ReadContentRange(s)
	if want, length, e := referenceReadContentRange(s); r != want || n != length || err != e {
		t.Errorf("ReadContentRange(%.200q) = %v, %d, %v; want %v, %d, %v", s, r, n, err, want, length, e)
	}
	if err != nil {
		return
	}
	if again, err := ranges.ContentRange(r, n); again != s || err != nil {
		t.Errorf("ContentRange(%v, %d) = %q, %v; want %q", r, n, again, err, s)
	}
}

// comparePieces also checks P9.3.
func comparePieces(t *testing.T, r ranges.Range, length int) {
	t.Helper()
	got := ranges.Pieces(r, length)
	if want := referencePiecesOf(r, length); !slices.Equal(got, want) {
		t.Errorf("Pieces(%v, %d) = %v; want %v", r, length, got, want)
	}
	var list []ranges.Range
	for _, i := range got {
		p, err := ranges.Piece(i, length)
		if err != nil || max(p.From, r.From) >= min(p.To, r.To) {
			t.Errorf("Piece(%d, %d) of Pieces(%v) = %v, %v", i, length, r, p, err)
		}
		list = append(list, p)
	}
	if part := one(max(r.From, 0), min(r.To, length, 65536)); !ranges.Cover(list, part) {
		t.Errorf("Pieces(%v, %d) = %v do not cover %v", r, length, got, part)
	}
}

func comparePiece(t *testing.T, i, length int) {
	t.Helper()
	got, err := ranges.Piece(i, length)
	if want, e := referencePiece(i, length); got != want || err != e {
		t.Errorf("Piece(%d, %d) = %v, %v; want %v, %v", i, length, got, err, want, e)
	}
}

func TestParse(t *testing.T) { // P9.1
	for _, c := range []struct {
		s      string
		length int
		want   []ranges.Range
	}{
		{"bytes=0-4, -3,20-", 10, of(0, 5, 7, 10)},
		{"bytes=0-0", 1, of(0, 1)},
		{"bytes=0-0", highest, of(0, 1)},
		{"bytes=0-9", 10, of(0, 10)},
		{"bytes=0-10", 10, of(0, 10)},
		{"bytes=0-999999999999999", 10, of(0, 10)},
		{"bytes=9-9", 10, of(9, 10)},
		{"bytes=9-10", 10, of(9, 10)},
		{"bytes=4-4", 10, of(4, 5)},
		{"bytes=4-5", 10, of(4, 6)},
		{"bytes=0-", 1, of(0, 1)},
		{"bytes=0-", 10, of(0, 10)},
		{"bytes=9-", 10, of(9, 10)},
		{"bytes=-1", 10, of(9, 10)},
		{"bytes=-9", 10, of(1, 10)},
		{"bytes=-10", 10, of(0, 10)},
		{"bytes=-11", 10, of(0, 10)},
		{"bytes=-999999999999999", 10, of(0, 10)},
		{"bytes=-1", 1, of(0, 1)},
		// What is empty is left out, and the order is kept.
		{"bytes=10-,-0,10-20,3-", 10, of(3, 10)},
		{"bytes=5-6,10-,0-1,-0,2-3", 10, of(5, 7, 0, 2, 2, 4)},
		{"bytes=0-4,0-4,2-3,-10", 10, of(0, 5, 0, 5, 2, 4, 0, 10)},
		{"bytes=0-1,2-3", 4, of(0, 2, 2, 4)},
		{"bytes=0-0,1-1,2-2,3-3,4-4,5-5,6-6,7-7", 10, of(0, 1, 1, 2, 2, 3, 3, 4, 4, 5, 5, 6, 6, 7, 7, 8)},
		// Blanks and empty elements.
		{"bytes= 0-4", 10, of(0, 5)},
		{"bytes=0-4 \t", 10, of(0, 5)},
		{"bytes= \t,, ,\t0-4\t, ,,6- ,", 10, of(0, 5, 6, 10)},
		{"bytes=" + repeat(",", 1000) + "-1" + repeat(" ,", 1000), 10, of(9, 10)},
		{"bytes=0-0" + repeat(",", 20) + "-1", 10, of(0, 1, 9, 10)},
		// Zeros before other digits, and numbers of 15 digits.
		{"bytes=00-04,-003,007-", 10, of(0, 5, 7, 10, 7, 10)},
		{"bytes=007-7", 10, of(7, 8)},
		{"bytes=000000000000004-000000000000005", 10, of(4, 6)},
		{"bytes=-000000000000002", 10, of(8, 10)},
		{"bytes=999999999999999-999999999999999", most + 1, of(most, most+1)},
		{"bytes=999999999999998-999999999999999", most, of(most-1, most)},
		{"bytes=999999999999999-", highest, of(most, highest)},
		{"bytes=-999999999999999", highest, of(highest-most, highest)},
		{"bytes=-1", highest, of(highest-1, highest)},
		{"bytes=0-999999999999999", highest, of(0, most+1)},
	} {
		if got, err := ranges.Parse(c.s, c.length); !slices.Equal(got, c.want) || err != nil {
			t.Errorf("Parse(%.200q, %d) = %v, %v; want %v", c.s, c.length, got, err, c.want)
		}
		for _, length := range someLengths {
			compareParse(t, c.s, length)
		}
	}
}

// malformed are values for which Parse returns ErrForm.
var malformed = []string{
	"", "bytes", "bytes=", "bytes= ", "bytes=,", "bytes= ,\t,", "=0-4", "0-4", "bytes0-4", "bytes:0-4", "bytes 0-4/10",
	"Bytes=0-4", "BYTES=0-4", "byte=0-4", "bytess=0-4", "items=0-1", " bytes=0-4", "bytes =0-4", "xbytes=0-4", "bytes==0-4", "bytes=bytes=0-4",
	"bytes=-", "bytes=--", "bytes=--1", "bytes=0", "bytes=4", "bytes=0-4-5", "bytes=0-4-", "bytes=-4-", "bytes=0--", "bytes=0--4", "bytes=-0-4",
	"bytes=4-3", "bytes=10-9", "bytes=007-6", "bytes=1-0", "bytes=999999999999999-999999999999998",
	"bytes=0 -4", "bytes=0- 4", "bytes=0 - 4", "bytes=- 3", "bytes=3 -", "bytes=0 0-4", "bytes=0-4 5-6", "bytes=0-4;5-6", "bytes=0\t-4",
	"bytes=a-b", "bytes=0-b", "bytes=a-4", "bytes=-a", "bytes=a-", "bytes=0x0-4", "bytes=+0-4", "bytes=0-+4", "bytes=-+4", "bytes=0.0-4", "bytes=1e1-", "bytes=*", "bytes=*-4", "bytes=0-*", "bytes=1_0-",
	"bytes=0-4,x", "bytes=x,0-4", "bytes=0-4,5", "bytes=0-4,-", "bytes=0-4,6-5", "bytes=6-5,0-4", "bytes=0-4,,4-3",
	"bytes=\"0-4\"", "bytes=0-4,\"\"", "bytes=0-4,\"5-6\"", "bytes=\"0-4", "bytes=0-4,\"", "bytes=\"0-4,5-6\"", "bytes=0-\"4\"",
	"bytes=0-4\x00", "bytes=\x010-4", "bytes=0-4\r\n", "bytes=0-4,\n", "bytes=0\x7f-4", "bytes=\v0-4", "bytes=0-4\u00a0", "bytes=0\u20134", "bytes=\u0660-4", "bytes=\xff",
	"bytes=0000000000000000-", "bytes=1000000000000000-", "bytes=0-1000000000000000", "bytes=0-0000000000000004", "bytes=-0000000000000001", "bytes=-9223372036854775808", "bytes=0-18446744073709551616",
	// The form of all elements comes before their number, and before what they stand for.
	"bytes=0-,1-,2-,3-,4-,5-,6-,7-,8-,x", "bytes=0-,1-,2-,3-,4-,5-,6-,7-,8-,4-3", "bytes=x,0-,1-,2-,3-,4-,5-,6-,7-,8-", "bytes=0-,1-,2-,3-,4-,5-,6-,7-,8-,\"", "bytes=-0,20-,-", "bytes=20-,\x7f",
}

func TestParseRefuses(t *testing.T) { // P9.1
	for _, s := range malformed {
		for _, length := range someLengths {
			if got, err := ranges.Parse(s, length); len(got) != 0 || err != api.ErrForm {
				t.Errorf("Parse(%q, %d) = %v, %v; want ErrForm", s, length, got, err)
			}
		}
		compareParse(t, s, 10)
	}
	for _, c := range []struct {
		s      string
		length int
		want   error
	}{
		{"bytes=10-", 10, api.ErrRange},
		{"bytes=10-10", 10, api.ErrRange},
		{"bytes=10-999999999999999", 10, api.ErrRange},
		{"bytes=999999999999999-", 10, api.ErrRange},
		{"bytes=999999999999999-", most, api.ErrRange},
		{"bytes=-0", 10, api.ErrRange},
		{"bytes=-000", 10, api.ErrRange},
		{"bytes=-0", 0, api.ErrRange},
		{"bytes=-0", highest, api.ErrRange},
		{"bytes=0-", 0, api.ErrRange},
		{"bytes=0-0", 0, api.ErrRange},
		{"bytes=-1", 0, api.ErrRange},
		{"bytes=-5", -5, api.ErrRange},
		{"bytes=0-", -1, api.ErrRange},
		{"bytes=0-4,-3,0-", lowest, api.ErrRange},
		{"bytes=10-,-0,11-12", 10, api.ErrRange},
		{"bytes=20-,20-,20-,20-,20-,20-,20-,-0", 10, api.ErrRange},
		{"bytes=0-,1-,2-,3-,4-,5-,6-,7-,8-", 10, api.ErrLarge},
		{"bytes=-1,-1,-1,-1,-1,-1,-1,-1,-1", 10, api.ErrLarge},
		{"bytes=20-,20-,20-,20-,20-,20-,20-,20-,20-", 10, api.ErrLarge},
		{"bytes=-0,-0,-0,-0,-0,-0,-0,-0,-0", 0, api.ErrLarge},
		{"bytes=0-1,20-,-0,20-,-0,20-,-0,20-,-0", 10, api.ErrLarge},
		{"bytes=0-" + repeat(",0-", 1000), -1, api.ErrLarge},
	} {
		if got, err := ranges.Parse(c.s, c.length); len(got) != 0 || err != c.want {
			t.Errorf("Parse(%.200q, %d) = %v, %v; want %v", c.s, c.length, got, err, c.want)
		}
		compareParse(t, c.s, c.length)
	}
}

func TestNumberOfElements(t *testing.T) { // P9.1, P9.2
	for n := 1; n <= 20; n++ {
		var list []ranges.Range
		for i := range n {
			list = append(list, one(i, 2*i+1))
		}
		s, err := ranges.Format(list)
		if err != nil {
			t.Errorf("Format(%v): %v", list, err)
		}
		compareList(t, list)
		got, err := ranges.Parse(s, 100)
		if n <= 8 && (!slices.Equal(got, list) || err != nil) || n > 8 && (len(got) != 0 || err != api.ErrLarge) {
			t.Errorf("Parse of %d ranges: %v, %v", n, got, err)
		}
	}
}

func TestFormat(t *testing.T) { // P9.1, P9.2
	for _, c := range []struct {
		list []ranges.Range
		want string
	}{
		{of(0, 5, 10, 20), "bytes=0-4,10-19"},
		{of(0, 1), "bytes=0-0"},
		{of(7, 8), "bytes=7-7"},
		{of(5, 6, 0, 3, 1, 2, 5, 6), "bytes=5-5,0-2,1-1,5-5"},
		{of(0, most), "bytes=0-999999999999998"},
		{of(most-1, most), "bytes=999999999999998-999999999999998"},
		{slices.Repeat(of(0, 2), 9), "bytes=0-1,0-1,0-1,0-1,0-1,0-1,0-1,0-1,0-1"},
	} {
		if s, err := ranges.Format(c.list); s != c.want || err != nil {
			t.Errorf("Format(%v) = %q, %v; want %q", c.list, s, err, c.want)
		}
		compareList(t, c.list)
	}
	for _, list := range [][]ranges.Range{
		nil, {}, of(0, 0), of(5, 5), of(5, 4), of(-1, 5), of(-2, -1), of(-1, 0), of(lowest, highest), of(highest, lowest), of(0, lowest),
		of(0, most+1), of(most, most+1), of(most+1, most+2), of(0, highest), of(highest, highest),
		of(0, 5, 5, 5), of(5, 5, 0, 5), of(0, 5, 6, 4, 7, 9), of(0, 5, -3, 4), of(0, 5, 6, most+1),
	} {
		if s, err := ranges.Format(list); s != "" || err != api.ErrForm {
			t.Errorf("Format(%v) = %q, %v; want ErrForm", list, s, err)
		}
		compareList(t, list)
	}
}

func TestContentRange(t *testing.T) { // P9.1
	for _, c := range []struct {
		r      ranges.Range
		length int
		want   string
	}{
		{one(0, 5), 10, "bytes 0-4/10"},
		{one(0, 1), 1, "bytes 0-0/1"},
		{one(9, 10), 10, "bytes 9-9/10"},
		{one(0, 10), 10, "bytes 0-9/10"},
		{one(255, 257), 65537, "bytes 255-256/65537"},
		{one(0, 1), most, "bytes 0-0/999999999999999"},
		{one(0, most), most, "bytes 0-999999999999998/999999999999999"},
		{one(most-1, most), most, "bytes 999999999999998-999999999999998/999999999999999"},
	} {
		if s, err := ranges.ContentRange(c.r, c.length); s != c.want || err != nil {
			t.Errorf("ContentRange(%v, %d) = %q, %v; want %q", c.r, c.length, s, err, c.want)
		}
		if r, n, err := ranges.ReadContentRange(c.want); r != c.r || n != c.length || err != nil {
			t.Errorf("ReadContentRange(%q) = %v, %d, %v; want %v, %d", c.want, r, n, err, c.r, c.length)
		}
		compareContentRange(t, c.r, c.length)
		compareReadContentRange(t, c.want)
	}
	for _, c := range []struct {
		r      ranges.Range
		length int
	}{
		{one(0, 0), 0}, {one(0, 0), 10}, {one(5, 5), 10}, {one(5, 4), 10}, {one(-1, 5), 10}, {one(-2, -1), 10}, {one(0, 11), 10}, {one(10, 11), 10}, {one(0, 1), 0}, {one(0, 1), -1}, {one(0, 1), lowest},
		{one(0, 1), most + 1}, {one(0, 1), highest}, {one(0, most+1), most + 1}, {one(0, most+1), most}, {one(most, most+1), highest}, {one(highest, lowest), 10}, {one(lowest, highest), highest},
	} {
		if s, err := ranges.ContentRange(c.r, c.length); s != "" || err != api.ErrForm {
			t.Errorf("ContentRange(%v, %d) = %q, %v; want ErrForm", c.r, c.length, s, err)
		}
		compareContentRange(t, c.r, c.length)
	}
}

func TestReadContentRangeRefuses(t *testing.T) { // P9.1
	for _, s := range []string{
		"", "bytes", "bytes ", "0-4/10", "bytes0-4/10", "bytes=0-4/10", "Bytes 0-4/10", "BYTES 0-4/10", "items 0-4/10", " bytes 0-4/10", "bytes  0-4/10", "bytes\t0-4/10", "xbytes 0-4/10", "bytes bytes 0-4/10",
		"bytes */10", "bytes 0-4/*", "bytes */*", "bytes 0-4", "bytes 0-4/", "bytes /10", "bytes -/10", "bytes 0-/10", "bytes -4/10", "bytes -0-4/10", "bytes 0--4/10", "bytes 0-4-5/10", "bytes 4/10", "bytes 0/10", "bytes 0-4//10", "bytes 0-4/10/", "bytes 0-4/10/10", "bytes 0/4-10", "bytes 0-4/-10", "bytes -",
		"bytes 4-3/10", "bytes 0-10/10", "bytes 10-10/10", "bytes 0-0/0", "bytes 0-4/4", "bytes 0-4/0", "bytes 10-9/10",
		"bytes 00-4/10", "bytes 0-04/10", "bytes 0-4/010", "bytes 0-00/10", "bytes 01-4/10", "bytes +0-4/10", "bytes 0-+4/10", "bytes 0-4/+10",
		"bytes 0 -4/10", "bytes 0- 4/10", "bytes 0-4 /10", "bytes 0-4/ 10", "bytes 0-4/10 ", "bytes 0-4/10\r\n", "bytes 0-4/10\x00", "bytes 0-4/10,", "bytes 0-4/10, 5-6/10", "bytes a-4/10", "bytes 0-b/10", "bytes 0-4/c", "bytes 0-4/0x10", "bytes \u0660-4/10",
		"bytes 0-4/1000000000000000", "bytes 0-999999999999999/1000000000000000", "bytes 0-999999999999999/999999999999999", "bytes 0-1000000000000000/999999999999999", "bytes 0-4/0000000000000010", "bytes 0-4/18446744073709551626",
	} {
		if r, n, err := ranges.ReadContentRange(s); r != (ranges.Range{}) || n != 0 || err != api.ErrForm {
			t.Errorf("ReadContentRange(%q) = %v, %d, %v; want ErrForm", s, r, n, err)
		}
		compareReadContentRange(t, s)
	}
}

func TestMerge(t *testing.T) { // P9.1, P9.3
	for _, c := range []struct{ list, want []ranges.Range }{
		{of(5, 7, 0, 2, 2, 3, 9, 9), of(0, 3, 5, 7)},
		{nil, nil},
		{of(0, 0), nil},
		{of(5, 4, 9, 9, highest, lowest), nil},
		{of(0, 5), of(0, 5)},
		{of(0, 2, 2, 4), of(0, 4)},
		{of(0, 2, 3, 5), of(0, 2, 3, 5)},
		{of(3, 5, 0, 2), of(0, 2, 3, 5)},
		{of(0, 10, 2, 3), of(0, 10)},
		{of(2, 3, 0, 10), of(0, 10)},
		{of(0, 10, 2, 3, 10, 11), of(0, 11)},
		{of(0, 10, 2, 3, 5, 12), of(0, 12)},
		{of(0, 5, 0, 3, 0, 7), of(0, 7)},
		{of(0, 5, 0, 5, 0, 5), of(0, 5)},
		{of(4, 4, 0, 4, 5, 5, 5, 6), of(0, 4, 5, 6)},
		{of(3, 1, 0, 2), of(0, 2)},
		{of(0, 2, 2, 2, 3, 4), of(0, 2, 3, 4)},
		{of(6, 8, 0, 2, 4, 6, 2, 4), of(0, 8)},
		{of(-5, -3, -3, 0, 1, 2), of(-5, 0, 1, 2)},
		{of(lowest, -1, 0, highest), of(lowest, -1, 0, highest)},
		{of(0, highest, lowest, 0), of(lowest, highest)},
		{of(most, most+1, highest-1, highest), of(most, most+1, highest-1, highest)},
	} {
		if got := ranges.Merge(c.list); !slices.Equal(got, c.want) {
			t.Errorf("Merge(%v) = %v; want %v", c.list, got, c.want)
		}
		compareList(t, c.list)
	}
}

func TestCover(t *testing.T) { // P9.1
	for _, c := range []struct {
		list []ranges.Range
		r    ranges.Range
		want bool
	}{
		{nil, one(0, 1), false},
		{nil, one(0, 0), true},
		{nil, one(5, 3), true},
		{nil, one(highest, lowest), true},
		{of(0, 5), one(7, 7), true},
		{of(0, 5), one(7, 6), true},
		{of(0, 5), one(0, 5), true},
		{of(0, 5), one(1, 4), true},
		{of(0, 5), one(0, 6), false},
		{of(0, 5), one(-1, 5), false},
		{of(0, 5), one(5, 6), false},
		{of(0, 5), one(8, 9), false},
		{of(5, 0), one(0, 5), false},
		{of(5, 0), one(1, 2), false},
		{of(0, 0, 5, 5), one(0, 5), false},
		{of(0, 2, 2, 4), one(0, 4), true},
		{of(2, 4, 0, 2), one(1, 3), true},
		{of(0, 2, 3, 5), one(0, 5), false},
		{of(0, 2, 3, 5), one(1, 4), false},
		{of(0, 2, 3, 5), one(2, 3), false},
		{of(0, 2, 3, 5), one(3, 5), true},
		{of(0, 2, 3, 5, 1, 4), one(0, 5), true},
		{of(lowest, 0, 0, highest), one(lowest, highest), true},
		{of(lowest, -1, 0, highest), one(lowest, highest), false},
		{of(-5, -2), one(-4, -3), true},
	} {
		if got := ranges.Cover(c.list, c.r); got != c.want {
			t.Errorf("Cover(%v, %v) = %v", c.list, c.r, got)
		}
		compareCover(t, c.list, c.r)
	}
}

// all returns every range with ends from low to high, empty ones among them.
func all(low, high int) []ranges.Range {
	var list []ranges.Range
	for from := low; from <= high; from++ {
		for to := low; to <= high; to++ {
			list = append(list, one(from, to))
		}
	}
	return list
}

func TestAllShortListsOfRanges(t *testing.T) { // P9.1, P9.2, P9.3
	for _, x := range all(-1, 4) {
		compareList(t, []ranges.Range{x})
		for _, y := range all(-1, 4) {
			compareList(t, []ranges.Range{x, y})
			for _, z := range all(-1, 4) {
				compareList(t, []ranges.Range{x, y, z})
			}
		}
	}
}

func TestCoverOfAllSmallRanges(t *testing.T) { // P9.1
	for _, r := range all(-1, 6) {
		compareCover(t, nil, r)
		for _, x := range all(0, 5) {
			for _, y := range all(0, 5) {
				compareCover(t, []ranges.Range{x, y}, r)
			}
		}
	}
}

// ends are numbers near the limits.
var ends = []int{lowest, lowest + 1, -1, 0, 1, most - 1, most, most + 1, highest - 1, highest}

func TestAllRangesWithEndsAtLimits(t *testing.T) { // P9.1, P9.2, P9.3
	for _, from := range ends {
		for _, to := range ends {
			for _, third := range ends {
				for _, fourth := range ends {
					list := of(from, to, third, fourth)
					compareList(t, list)
					compareCover(t, list[:1], list[1])
				}
				compareContentRange(t, one(from, to), third)
				comparePieces(t, one(from, to), third)
			}
		}
		for _, length := range ends {
			comparePiece(t, from, length)
			compareParse(t, fmt.Sprintf("bytes=%d-", from), length)
			compareParse(t, fmt.Sprintf("bytes=-%d", from), length)
			compareParse(t, fmt.Sprintf("bytes=0-%d", from), length)
		}
	}
}

func TestPieces(t *testing.T) { // P9.1, P9.3
	for _, c := range []struct {
		r      ranges.Range
		length int
		want   []int
	}{
		{one(255, 257), 1000, []int{0, 1}},
		{one(0, 0), 1000, nil},
		{one(300, 300), 1000, nil},
		{one(600, 300), 1000, nil},
		{one(0, 1), 1000, []int{0}},
		{one(0, 256), 1000, []int{0}},
		{one(0, 257), 1000, []int{0, 1}},
		{one(256, 257), 1000, []int{1}},
		{one(255, 256), 1000, []int{0}},
		{one(256, 512), 1000, []int{1}},
		{one(256, 769), 1000, []int{1, 2, 3}},
		{one(0, 1000), 1000, []int{0, 1, 2, 3}},
		{one(999, 5000), 1000, []int{3}},
		{one(1000, 5000), 1000, nil},
		{one(1000, 1024), 1000, nil},
		{one(0, 5000), 1024, []int{0, 1, 2, 3}},
		{one(0, 5000), 1025, []int{0, 1, 2, 3, 4}},
		{one(-5, 1), 1000, []int{0}},
		{one(-5, 0), 1000, nil},
		{one(-500, -200), 1000, nil},
		{one(0, 1), 0, nil},
		{one(0, 1), 1, []int{0}},
		{one(-1, 1), -1, nil},
		{one(lowest, highest), lowest, nil},
		{one(lowest, highest), 300, []int{0, 1}},
		{one(highest, lowest), 300, nil},
		{one(65535, 70000), 65535, nil},
		{one(65535, 70000), 65536, []int{255}},
		{one(65535, 70000), 65537, []int{255}},
		{one(65535, 70000), highest, []int{255}},
		{one(65536, 70000), 70000, nil},
		{one(65536, highest), highest, nil},
	} {
		if got := ranges.Pieces(c.r, c.length); !slices.Equal(got, c.want) {
			t.Errorf("Pieces(%v, %d) = %v; want %v", c.r, c.length, got, c.want)
		}
		comparePieces(t, c.r, c.length)
	}
	if got := ranges.Pieces(one(lowest, highest), highest); len(got) != 256 || got[0] != 0 || got[255] != 255 {
		t.Errorf("Pieces of everything are %v", got)
	}
}

func TestPiece(t *testing.T) { // P9.1
	for _, c := range []struct {
		i, length int
		want      ranges.Range
	}{
		{3, 1000, one(768, 1000)},
		{0, 1000, one(0, 256)},
		{0, 1, one(0, 1)},
		{0, 255, one(0, 255)},
		{0, 256, one(0, 256)},
		{1, 257, one(256, 257)},
		{2, 768, one(512, 768)},
		{255, 65536, one(65280, 65536)},
		{255, 65535, one(65280, 65535)},
		{255, 65281, one(65280, 65281)},
		{255, 65537, one(65280, 65536)},
		{255, highest, one(65280, 65536)},
	} {
		if got, err := ranges.Piece(c.i, c.length); got != c.want || err != nil {
			t.Errorf("Piece(%d, %d) = %v, %v; want %v", c.i, c.length, got, err, c.want)
		}
	}
	for _, c := range []struct{ i, length int }{
		{4, 1000}, {0, 0}, {0, -1}, {0, lowest}, {-1, 1000}, {-1, 0}, {-1, -1000}, {lowest, 1000}, {highest, 1000}, {1, 256}, {2, 512}, {255, 65280}, {256, 65536}, {256, 65537}, {256, highest}, {highest, highest},
		{1 << 56, 1000}, {1 << 55, highest}, {-1 << 55, 1000}, {1<<56 + 1, 1000}, {1<<48 + 1, 65536},
	} {
		if got, err := ranges.Piece(c.i, c.length); got != (ranges.Range{}) || err != api.ErrRange {
			t.Errorf("Piece(%d, %d) = %v, %v; want ErrRange", c.i, c.length, got, err)
		}
	}
}

func TestPiecesOfAllLengths(t *testing.T) { // P9.1, P9.3
	for length := -2; length <= 66000; length += 1 + length/1000 {
		for _, i := range []int{-1, 0, 1, 2, length/256 - 1, length / 256, length/256 + 1, 255, 256} {
			comparePiece(t, i, length)
		}
		for _, r := range of(0, length, length-1, length+1, length/2, length, 0, highest, length-256, length-1, length-257, length) {
			comparePieces(t, r, length)
		}
	}
	edges := []int{0, 1, 255, 256, 257, 511, 512, 513, 600}
	for _, length := range edges {
		for _, from := range edges {
			for _, to := range edges {
				comparePieces(t, one(from, to), length)
			}
		}
	}
}

func TestAllShortRangeFields(t *testing.T) { // P9.1
	samples.Strings(6, []string{"0", "1", "4", "-", ",", " "}, func(s string) {
		compareParse(t, "bytes="+s, 3)
	})
	samples.Strings(4, []string{"0-1", "2-", "-1", "-0", "7-", "-", "1-0", ",", " ,\t", "\"", "\x00", "bytes=", "x"}, func(s string) {
		compareParse(t, "bytes="+s, 5)
		compareParse(t, s, 5)
	})
}

func TestAllShortContentRanges(t *testing.T) { // P9.1
	samples.Strings(6, []string{"0", "1", "4", "-", "/", " "}, func(s string) {
		compareReadContentRange(t, "bytes "+s)
	})
	samples.Strings(5, []string{"bytes ", "0-1", "0-", "-1", "/", "2", "00", "*", "/10", " "}, func(s string) {
		compareReadContentRange(t, s)
	})
}

func TestEachByteAtEachPlaceOfFields(t *testing.T) { // P9.1
	for _, s := range []string{"bytes=0-4, -3,20-", "bytes=999999999999999-999999999999999"} {
		samples.Edits(s, func(s string) {
			compareParse(t, s, 10)
			compareParse(t, s, highest)
		})
	}
	for _, s := range []string{"bytes 0-4/10", "bytes 999999999999997-999999999999998/999999999999999"} {
		samples.Edits(s, func(s string) { compareReadContentRange(t, s) })
	}
}

func TestEachByteBesideAnElement(t *testing.T) { // P9.1
	for c := range 256 {
		s := string([]byte{byte(c)})
		digit := '0' <= c && c <= '9'
		for _, text := range []string{"bytes=" + s + "0-99", "bytes=0-9" + s} {
			good := digit || strings.Contains(" \t,", s)
			if _, err := ranges.Parse(text, 100); (err == nil) != good || err != nil && err != api.ErrForm {
				t.Errorf("Parse(%q): %v", text, err)
			}
		}
		// Between elements a comma is needed.
		if _, err := ranges.Parse("bytes=0-1"+s+"5-", 100); (err == nil) != (s == ",") {
			t.Errorf("Parse with %q between elements: %v", s, err)
		}
	}
}

// someNumber returns a number, most often a small one.
func someNumber(random *rand.Rand) int {
	switch random.Intn(10) {
	case 0:
		return ends[random.Intn(len(ends))]
	case 1:
		return random.Intn(most)
	case 2:
		return random.Intn(70000)
	}
	return random.Intn(20)
}

func someList(random *rand.Rand) []ranges.Range {
	var list []ranges.Range
	for range random.Intn(11) {
		from := someNumber(random)
		to := from + 1 + random.Intn(10)
		if random.Intn(8) == 0 {
			to = someNumber(random)
		}
		list = append(list, one(from, to))
	}
	return list
}

func someField(random *rand.Rand) string {
	s := "bytes="
	for range random.Intn(11) {
		a := someNumber(random)
		s += samples.Some(random, fmt.Sprint(a, "-"), fmt.Sprint("-", a), fmt.Sprintf("%d-%d", a, a+random.Intn(9)))
		s += samples.Some(random, ",", ", ", "\t,", ",,")
	}
	if random.Intn(3) == 0 {
		s = samples.Spoil(random, s, "-", ",", " ", "0", "9", "\"", "x")
	}
	return s
}

func TestRandomRanges(t *testing.T) { // P9.1, P9.2, P9.3
	random := rand.New(rand.NewSource(1))
	for range 20000 {
		list := someList(random)
		compareList(t, list)
		length := someNumber(random)
		r := one(someNumber(random), someNumber(random))
		compareCover(t, list, r)
		compareContentRange(t, r, length)
		comparePieces(t, r, length)
		comparePiece(t, someNumber(random), length)
		compareParse(t, someField(random), length)
		s := fmt.Sprintf("bytes %d-%d/%d", r.From, r.To, length)
		compareReadContentRange(t, s)
		compareReadContentRange(t, samples.Spoil(random, s, "-", "/", " ", "0", "9"))
	}
}

func FuzzRanges(f *testing.F) { // P9.1, P9.2, P9.3
	f.Add("bytes=0-4, -3,20-", 10, 255, 257)
	f.Add("bytes=0-0,1-,-1,", 65536, 0, 65537)
	f.Add("bytes=999999999999999-,\"", highest, lowest, most)
	f.Add("bytes 0-4/10", 10, 0, 5)
	f.Add("bytes 999999999999998-999999999999998/999999999999999", most, most-1, most)
	f.Fuzz(func(t *testing.T, s string, length, from, to int) {
		compareParse(t, s, length)
		compareReadContentRange(t, s)
		r := one(from, to)
		compareContentRange(t, r, length)
		comparePieces(t, r, length)
		comparePiece(t, from, length)
		list := []ranges.Range{r, one(length, from), one(to, length)}
		if more, err := ranges.Parse(s, length); err == nil {
			list = append(list, more...)
		}
		compareList(t, list)
		compareCover(t, list[1:], r)
	})
}

func TestListsOfRangesAreSeparate(t *testing.T) { // P1 with rule 3
	list := of(5, 7, 0, 2, 2, 3, 9, 9)
	kept := slices.Clone(list)
	merged := ranges.Merge(list)
	clear(merged[:cap(merged)])
	ranges.Cover(list, one(0, 3))
	if _, err := ranges.Format(list[:3]); err != nil || !slices.Equal(list, kept) {
		t.Errorf("the list is %v, %v", list, err)
	}
	// Sorted and disjoint lists must not be returned as they are.
	sorted := of(0, 1, 2, 3)
	merged = ranges.Merge(sorted)
	merged[0] = one(7, 8)
	if !slices.Equal(sorted, of(0, 1, 2, 3)) {
		t.Errorf("the merged list shares memory: %v", sorted)
	}
}

func TestLongInputs(t *testing.T) { // P1
	const n = 1 << 18
	for _, c := range []struct {
		s    string
		want error
	}{
		{repeat(",", n) + "0-", nil},
		{repeat("0-,", n), api.ErrLarge},
		{repeat("-", n), api.ErrForm},
		{repeat("0", n), api.ErrForm},
		{repeat("0", n) + "-", api.ErrForm},
		{repeat("\"", n), api.ErrForm},
	} {
		if _, err := ranges.Parse("bytes="+c.s, 10); err != c.want {
			t.Errorf("Parse of %.10q..: %v; want %v", c.s, err, c.want)
		}
		if _, _, err := ranges.ReadContentRange("bytes " + c.s); err != api.ErrForm {
			t.Errorf("ReadContentRange of %.10q..: %v", c.s, err)
		}
	}
	var apart, joined []ranges.Range
	for i := n; i > 0; i-- {
		apart = append(apart, one(2*i, 2*i+1))
		joined = append(joined, one(i, i+1+i%3))
	}
	if got := ranges.Merge(apart); len(got) != n || got[0] != one(2, 3) || got[n-1] != one(2*n, 2*n+1) {
		t.Errorf("Merge leaves %d ranges", len(got))
	}
	if got := ranges.Merge(joined); len(got) != 1 || got[0] != one(1, n+1+n%3) {
		t.Errorf("Merge leaves %d ranges", len(got))
	}
	if !ranges.Cover(joined, one(1, n)) || ranges.Cover(apart, one(1, n)) {
		t.Error("Cover is wrong for long lists")
	}
	if s, err := ranges.Format(apart); err != nil || len(s) < 8*n {
		t.Errorf("Format returns %d bytes, %v", len(s), err)
	}
}
