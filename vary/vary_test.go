package vary_test

import (
	"math"
	"math/rand"
	"slices"
	"strconv"
	"strings"
	"testing"

	"quayside/field"
	"quayside/samples"
	"quayside/vary"
)

// of returns the fields with the names and values given in turn.
var of = samples.Fields

// compareNames checks Names against reference_test.go.
func compareNames(t *testing.T, f field.Fields) {
	t.Helper()
	kept := slices.Clone(f)
	names, isAny := vary.Names(f)
	wantNames, wantAny := referenceNames(f)
	if !slices.Equal(names, wantNames) || isAny != wantAny {
		t.Errorf("Names(%.300q) = %.300q, %t; want %.300q, %t", f, names, isAny, wantNames, wantAny)
	}
	if !slices.Equal(f, kept) {
		t.Errorf("Names changed %.300q to %.300q", kept, f)
	}
}

// compareKey checks Key against reference_test.go.
func compareKey(t *testing.T, names []string, f field.Fields) {
	t.Helper()
	keptNames, kept := slices.Clone(names), slices.Clone(f)
	if got, want := vary.Key(names, f), referenceKey(names, f); got != want {
		t.Errorf("Key(%.300q, %.300q) = %.300q; want %.300q", names, f, got, want)
	}
	if !slices.Equal(names, keptNames) || !slices.Equal(f, kept) {
		t.Errorf("Key changed %.300q, %.300q to %.300q, %.300q", keptNames, kept, names, f)
	}
}

func TestExamples(t *testing.T) { // P16.1, P16.2
	if names, isAny := vary.Names(of("vary", "Accept-Encoding, accept")); !slices.Equal(names, []string{"accept", "accept-encoding"}) || isAny {
		t.Errorf("Names = %q, %t", names, isAny)
	}
	if names, isAny := vary.Names(of("vary", "a, *")); len(names) != 0 || !isAny {
		t.Errorf("Names = %q, %t", names, isAny)
	}
	request := of("Accept", "text/html,  text/plain")
	if key := vary.Key([]string{"accept", "x"}, request); key != `accept="text/html, text/plain"&x` {
		t.Errorf("Key = %s", key)
	}
	s := vary.New()
	if removed := s.Put([]string{"accept"}, request, 1); len(removed) != 0 {
		t.Errorf("the first Put returns %d", removed)
	}
	if ids := s.Find(request); !slices.Equal(ids, []int{1}) {
		t.Errorf("Find = %d", ids)
	}
	if ids := s.Find(nil); len(ids) != 0 {
		t.Errorf("Find without Accept = %d", ids)
	}
	if removed := s.Put([]string{"accept"}, request, 2); !slices.Equal(removed, []int{1}) {
		t.Errorf("the second Put returns %d", removed)
	}
}

func TestNames(t *testing.T) { // P16.1
	long := strings.Repeat("Ab", 32)
	for _, c := range []struct {
		f    field.Fields
		want string
	}{
		{nil, ""},
		{of("x", "a", "varys", "b", "va-ry", "*", "vary ", "c"), ""},
		{of("vary", ""), ""},
		{of("vary", " ,\t,, "), ""},
		{of("vary", "a"), "a"},
		{of("vary", "\t a ,"), "a"},
		{of("Vary", "A"), "a"},
		{of("VARY", "b,a"), "a b"},
		{of("vary", "a, A, a,b,B"), "a b"},
		{of("vary", "z, y-a, Y, x_, 0, ~, !"), "! 0 x_ y y-a z ~"},
		{of("vary", "B", "x", "*", "vary", "", "vary", "c, a", "vary", "b"), "a b c"},
		{of("vary", "a10, a9, a"), "a a10 a9"},
		{of("vary", "**, *a, a*"), "** *a a*"},
		{of("vary", "!#$%&'*+-.^_`|~09AZaz"), "!#$%&'*+-.^_`|~09azaz"},
		{of("vary", "accept,accept-encoding,accept-language"), "accept accept-encoding accept-language"},
		{of("vary", long), strings.ToLower(long)},
		{of("vary", "x,"+long[1:]), strings.ToLower(long[1:]) + " x"},
	} {
		names, isAny := vary.Names(c.f)
		if strings.Join(names, " ") != c.want || isAny {
			t.Errorf("Names(%.300q) = %q, %t; want %q", c.f, names, isAny, c.want)
		}
		compareNames(t, c.f)
	}
}

func TestNamesOfAny(t *testing.T) { // P16.1
	long := strings.Repeat("ab", 32)
	for _, value := range []string{
		"*", " *\t", "*,*", "a, *", "*, a", ",*,", "a\t,\t*",
		`"`, `"a`, `a"`, "a, \"b", `"a\"`, "\x00", "a\n", "a,\x7f", "a\r\n, b",
		`"a"`, `""`, `a, "b, c"`, `"*"`,
		"a b", "a\tb", "a b, c", "a:", "a;b", "a/b", "a=b", "a@b", "(a)", "[a]", "{a}", "<a>", `\`, `a\b`, "a?",
		"\x80", "\xff", "\u212a", "caf\u00e9", "a, \xe9",
		long + "a", "a, " + long + long, strings.Repeat(long, 100),
	} {
		for _, f := range []field.Fields{
			of("vary", value),
			of("VaRy", value, "x", "1"),
			of("vary", "a", "vary", value, "vary", "b"),
			of("vary", "b, a", "Vary", value),
		} {
			names, isAny := vary.Names(f)
			if len(names) != 0 || !isAny {
				t.Errorf("Names(%.300q) = %.300q, %t", f, names, isAny)
			}
			compareNames(t, f)
		}
	}
	// Joined by a comma, the two would be one quoted element.
	for _, f := range []field.Fields{of("vary", `"a`, "vary", `b"`), of("vary", "a, \"", "vary", "\"")} {
		if names, isAny := vary.Names(f); len(names) != 0 || !isAny {
			t.Errorf("Names(%q) = %q, %t", f, names, isAny)
		}
	}
}

func TestNamesOfAllShortTexts(t *testing.T) { // P16.1
	samples.Strings(6, []string{"a", "B", "*", ",", " ", "\t", `"`, `\`}, func(s string) { compareNames(t, of("vary", s)) })
	samples.Edits("Accept-Encoding, b,\tA", func(s string) { compareNames(t, of("vary", s)) })
	samples.Edits(strings.Repeat("a", 64)+",*a", func(s string) { compareNames(t, of("vary", s)) })
	samples.Edits("vary", func(s string) { compareNames(t, of(s, "b, a", "vary", "C")) })
	samples.Lists(3, of("vary", "a", "Vary", "B, a", "vary", "", "VARY", "*", "vary", "c b", "x", "d", "vary", `"`, "vary", "c"), func(f field.Fields) {
		compareNames(t, f)
	})
}

func TestKey(t *testing.T) { // P16.1
	f := of("a", "1", "B", " x \t y ", "b", "", "c", "", "d", "\t \t", "e", `"\`, "f", "a\x00b\nc\x7f\r\n", "G", "\x80\xff\u00e9", "h", "\v \x1f\t", "i", "1,2", "j", "1", "J", "2", "", "k", "l&m", "=")
	for _, c := range []struct {
		names, want string
	}{
		{"a", `a="1"`},
		{"A", `A="1"`},
		{"b", `b="x y,"`},
		{"c", `c=""`},
		{"d", `d=""`},
		{"e", `e="\"\\"`},
		{"f", `f="a?b?c???"`},
		{"g", "g=\"\x80\xff\u00e9\""},
		{"h", `h="? ?"`},
		{"i", `i="1,2"`},
		{"j", `j="1,2"`},
		{"", `="k"`},
		{"x", `x`},
		{"l&m", `l&m="="`},
		{"a c", `a="1"&c=""`},
		{"c a", `c=""&a="1"`},
		{"a x a", `a="1"&x&a="1"`},
		{"a A", `a="1"&A="1"`},
		{"x y", `x&y`},
		{"x  a", `x&="k"&a="1"`},
		{"x&y a=\"1\"", `x&y&a="1"`},
		{"\x00 \xff \"", "\x00&\xff&\""},
	} {
		names := strings.Split(c.names, " ")
		if got := vary.Key(names, f); got != c.want {
			t.Errorf("Key(%q) = %q; want %q", names, got, c.want)
		}
		compareKey(t, names, f)
		compareKey(t, names, nil)
	}
	if key := vary.Key(nil, f) + vary.Key([]string{}, f) + vary.Key([]string{""}, nil); key != "" {
		t.Errorf("Key without names = %q", key)
	}
	if key := vary.Key([]string{"", ""}, nil); key != "&" {
		t.Errorf("Key of two empty names = %q", key)
	}
}

func TestKeyOfAllShortTexts(t *testing.T) { // P16.1
	samples.Strings(5, []string{" ", "\t", "a", ",", `"`, `\`, "\n", "\xff"}, func(s string) { compareKey(t, []string{"a"}, of("a", s)) })
	samples.Edits(" a\t b,\xc3\xa9", func(s string) { compareKey(t, []string{"a", "b"}, of("A", s, "b", "1", "a", s)) })
	samples.Edits("accept", func(s string) {
		compareKey(t, []string{"accept", s}, of("Accept", "1"))
		compareKey(t, []string{s}, of(s, "1"))
		compareKey(t, []string{"accept"}, of(s, "1"))
	})
	// No byte but those of blanks and controls is changed, in either half.
	for c := range 256 {
		for d := range 256 {
			compareKey(t, []string{"a"}, of("a", string([]byte{byte(c), byte(d)})))
		}
	}
	// Blanks of Unicode are none.
	for _, blank := range []string{"\u00a0", "\u0085", "\u2003", "\u3000", "\x85", "\xa0", "\v", "\f"} {
		compareKey(t, []string{"a"}, of("a", blank+blank+"x"+blank+blank+"y"+blank))
	}
}

// oddNames are names of which lists look alike as texts.
var oddNames = []string{"a", "A", "b", "", "&", "=", "a&b", `a=""`, `a="1"&b`, `"`, "a="}

func TestKeysTellRequestsApart(t *testing.T) { // P16.2
	var requests []field.Fields
	samples.Lists(2, of("a", "", "a", "1", "B", "1", "a", `"`, "b", `\`, "a", "1 ", "a", `"&b="`, "", "", "a", "\x00", "a", "?"), func(f field.Fields) {
		requests = append(requests, f)
	})
	samples.Lists(2, oddNames, func(names []string) {
		var keys []string
		var values [][]string
		for _, f := range requests {
			keys = append(keys, vary.Key(names, f))
			values = append(values, referenceValues(names, f))
		}
		for i := range requests {
			for j := range requests {
				if (keys[i] == keys[j]) != slices.Equal(values[i], values[j]) {
					t.Fatalf("for the names %q, the requests %q and %q have the keys %q and %q", names, requests[i], requests[j], keys[i], keys[j])
				}
			}
		}
	})
}

// pair is a set and what it is compared with.
type pair struct {
	set  *vary.Set
	want *referenceSet
}

func newPair() pair {
	return pair{vary.New(), newReference()}
}

func (p pair) check(t *testing.T, what string, got, want []int) {
	t.Helper()
	if !slices.Equal(got, want) {
		t.Errorf("%s = %d; want %d", what, got, want)
	}
	ids := p.set.IDs()
	if !slices.Equal(ids, p.want.ids()) {
		t.Errorf("after %s, IDs = %d; want %d", what, ids, p.want.ids())
	}
	slices.Sort(ids)
	if n := len(ids); n > 16 || len(slices.Compact(ids)) != n {
		t.Errorf("after %s, there are %d variants: %d", what, n, ids)
	}
}

// put puts a variant, with arguments that are changed afterwards.
func (p pair) put(t *testing.T, names []string, f field.Fields, id int) {
	t.Helper()
	lentNames, lent := slices.Clone(names), slices.Clone(f)
	got := p.set.Put(lentNames, lent, id)
	if !slices.Equal(lentNames, names) || !slices.Equal(lent, f) {
		t.Errorf("Put changed %.300q, %.300q to %.300q, %.300q", names, f, lentNames, lent)
	}
	for i := range lentNames {
		lentNames[i] = "changed"
	}
	clear(lent)
	p.check(t, "Put("+strconv.Quote(strings.Join(names, "|"))+", "+strconv.Itoa(id)+")", got, p.want.put(names, f, id))
	for i := range got {
		got[i]--
	}
	// P16.2, for the variant itself
	if !slices.Contains(p.set.Find(f), id) {
		t.Errorf("Find of the request of Put lacks %d", id)
	}
}

func (p pair) find(t *testing.T, f field.Fields) {
	t.Helper()
	lent := slices.Clone(f)
	got := p.set.Find(lent)
	if !slices.Equal(lent, f) {
		t.Errorf("Find changed %.300q to %.300q", f, lent)
	}
	p.check(t, "Find", got, p.want.find(f))
	for i := range got {
		got[i]--
	}
}

func (p pair) remove(t *testing.T, id int) {
	t.Helper()
	if got, want := p.set.Remove(id), p.want.remove(id); got != want {
		t.Errorf("Remove(%d) = %t", id, got)
	}
	p.check(t, "Remove("+strconv.Itoa(id)+")", nil, nil)
}

// ids returns a set's ids as a text.
func ids(s *vary.Set) string {
	return text(s.IDs())
}

func text(ids []int) string {
	var list []string
	for _, id := range ids {
		list = append(list, strconv.Itoa(id))
	}
	return strings.Join(list, " ")
}

func TestPut(t *testing.T) { // P16.1, P16.3
	s := vary.New()
	one, two := of("a", "1"), of("a", "2")
	for i, c := range []struct {
		names         []string
		f             field.Fields
		id            int
		removed, left string
	}{
		{[]string{"a"}, one, 1, "", "1"},
		{[]string{"a"}, one, 1, "", "1"},
		{[]string{"a"}, two, 2, "", "2 1"},
		{[]string{"A"}, one, 3, "", "3 2 1"},
		{nil, one, 4, "", "4 3 2 1"},
		{[]string{}, two, 5, "4", "5 3 2 1"},
		{[]string{""}, nil, 6, "", "6 5 3 2 1"},
		{[]string{"a", "b"}, one, 7, "", "7 6 5 3 2 1"},
		{[]string{"b", "a"}, one, 8, "", "8 7 6 5 3 2 1"},
		{[]string{"a", "a"}, one, 9, "", "9 8 7 6 5 3 2 1"},
		// the same id, for another variant
		{[]string{"c"}, one, 5, "", "5 9 8 7 6 3 2 1"},
		{nil, nil, -1, "", "-1 5 9 8 7 6 3 2 1"},
		// the id of one variant, and the names and the key of another
		{[]string{"a"}, of("x", "y", "A", "\t1 "), 8, "1", "8 -1 5 9 7 6 3 2"},
		// the same key with other names
		{[]string{"x&y"}, nil, 1, "", "1 8 -1 5 9 7 6 3 2"},
		{[]string{"x", "y"}, nil, 10, "", "10 1 8 -1 5 9 7 6 3 2"},
		{[]string{"x", "y"}, of("a", "3"), 11, "10", "11 1 8 -1 5 9 7 6 3 2"},
		{[]string{"x", "y"}, of("y", ""), 12, "", "12 11 1 8 -1 5 9 7 6 3 2"},
		// the front and the end again
		{[]string{"x", "y"}, of("y", "\t"), 12, "", "12 11 1 8 -1 5 9 7 6 3 2"},
		{[]string{"a"}, of("a", "2 "), 2, "", "2 12 11 1 8 -1 5 9 7 6 3"},
		{[]string{"A"}, one, 0, "3", "0 2 12 11 1 8 -1 5 9 7 6"},
		{[]string{"A"}, two, math.MinInt, "", strconv.Itoa(math.MinInt) + " 0 2 12 11 1 8 -1 5 9 7 6"},
		{[]string{"A"}, two, math.MaxInt, strconv.Itoa(math.MinInt), strconv.Itoa(math.MaxInt) + " 0 2 12 11 1 8 -1 5 9 7 6"},
	} {
		if removed := text(s.Put(c.names, c.f, c.id)); removed != c.removed || ids(s) != c.left {
			t.Errorf("Put %d removed %q and left %q; want %q, %q", i, removed, ids(s), c.removed, c.left)
		}
	}
}

// value returns the fields of a request of its own for each n.
func value(n int) field.Fields {
	return of("a", strconv.Itoa(n))
}

// full returns a set with the variants 16 to 1 for the values 16 to 1 of a.
func full() *vary.Set {
	s := vary.New()
	for n := range 16 {
		s.Put([]string{"a"}, value(n+1), n+1)
	}
	return s
}

func TestPutIntoFullSet(t *testing.T) { // P16.1, P16.3
	for _, c := range []struct {
		n, id         int
		removed, left string
	}{
		{17, 17, "1", "17 16 15 14 13 12 11 10 9 8 7 6 5 4 3 2"},
		{17, 1, "", "1 16 15 14 13 12 11 10 9 8 7 6 5 4 3 2"},
		{17, 16, "", "16 15 14 13 12 11 10 9 8 7 6 5 4 3 2 1"},
		{17, 9, "", "9 16 15 14 13 12 11 10 8 7 6 5 4 3 2 1"},
		{1, 17, "1", "17 16 15 14 13 12 11 10 9 8 7 6 5 4 3 2"},
		{16, 17, "16", "17 15 14 13 12 11 10 9 8 7 6 5 4 3 2 1"},
		{9, 17, "9", "17 16 15 14 13 12 11 10 8 7 6 5 4 3 2 1"},
		{9, 9, "", "9 16 15 14 13 12 11 10 8 7 6 5 4 3 2 1"},
		{1, 1, "", "1 16 15 14 13 12 11 10 9 8 7 6 5 4 3 2"},
		{1, 16, "1", "16 15 14 13 12 11 10 9 8 7 6 5 4 3 2"},
		{16, 1, "16", "1 15 14 13 12 11 10 9 8 7 6 5 4 3 2"},
	} {
		s := full()
		removed := text(s.Put([]string{"a"}, value(c.n), c.id))
		if removed != c.removed || ids(s) != c.left {
			t.Errorf("Put of %d with the id %d removed %q and left %q; want %q, %q", c.n, c.id, removed, ids(s), c.removed, c.left)
		}
	}
	s := full()
	for n := 17; n < 1000; n++ {
		if removed := s.Put([]string{"a"}, value(n), n); !slices.Equal(removed, []int{n - 16}) || len(s.IDs()) != 16 {
			t.Fatalf("Put of %d removed %d and left %d", n, removed, s.IDs())
		}
	}
}

func TestFind(t *testing.T) { // P16.1, P16.2
	s := vary.New()
	s.Put([]string{"a"}, of("a", "1"), 1)
	s.Put([]string{"a", "b"}, of("A", "1"), 2)
	s.Put([]string{"b"}, of("b", "x y"), 3)
	s.Put(nil, of("b", "x"), 4)
	s.Put([]string{"a"}, of("a", ""), 5)
	s.Put([]string{"A"}, of("a", "1", "a", "2"), 6)
	s.Put([]string{"a"}, of("c", "1"), 7)
	s.Put([]string{"b"}, of("b", "?"), 8)
	for _, c := range []struct {
		f    field.Fields
		want string
	}{
		{nil, "7 4"},
		{of("c", "2"), "7 4"},
		{of("a", "1"), "4 2 1"},
		{of("x", "2", "A", " 1\t"), "4 2 1"},
		{of("a", "1", "b", "x y"), "4 3 1"},
		{of("b", "x \t y", "a", "1"), "4 3 1"},
		{of("a", "1", "b", ""), "4 1"},
		{of("b", "x", "b", "y"), "7 4"},
		{of("b", "x  y", "b", ""), "7 4"},
		{of("b", "X y"), "7 4"},
		{of("a", ""), "5 4"},
		{of("a", " "), "5 4"},
		{of("a", "", "a", ""), "4"},
		{of("a", "1", "x", "", "A", "2"), "6 4"},
		{of("a", "1,2"), "6 4"},
		{of("a", "1, 2"), "4"},
		{of("a", "2", "a", "1"), "4"},
		{of("b", "\x00"), "8 7 4"},
		{of("b", "\n"), "8 7 4"},
	} {
		if got := text(s.Find(c.f)); got != c.want {
			t.Errorf("Find(%q) = %s; want %s", c.f, got, c.want)
		}
	}
	if ids(s) != "8 7 6 5 4 3 2 1" {
		t.Errorf("Find has changed the set: %s", ids(s))
	}
}

func TestRemove(t *testing.T) { // P16.1
	s := full()
	for i, c := range []struct {
		id   int
		want bool
		left string
	}{
		{17, false, "16 15 14 13 12 11 10 9 8 7 6 5 4 3 2 1"},
		{0, false, "16 15 14 13 12 11 10 9 8 7 6 5 4 3 2 1"},
		{-1, false, "16 15 14 13 12 11 10 9 8 7 6 5 4 3 2 1"},
		{16, true, "15 14 13 12 11 10 9 8 7 6 5 4 3 2 1"},
		{16, false, "15 14 13 12 11 10 9 8 7 6 5 4 3 2 1"},
		{1, true, "15 14 13 12 11 10 9 8 7 6 5 4 3 2"},
		{9, true, "15 14 13 12 11 10 8 7 6 5 4 3 2"},
		{math.MinInt, false, "15 14 13 12 11 10 8 7 6 5 4 3 2"},
	} {
		if got := s.Remove(c.id); got != c.want || ids(s) != c.left {
			t.Errorf("%d: Remove(%d) = %t and left %s", i, c.id, got, ids(s))
		}
	}
	if list := s.Find(value(9)); len(list) != 0 {
		t.Errorf("Find of a variant that was removed = %d", list)
	}
	// What was removed gives way to nothing later.
	if removed := s.Put([]string{"a"}, value(9), 20); len(removed) != 0 || !strings.HasPrefix(ids(s), "20 15 ") {
		t.Errorf("Put after Remove removed %d and left %s", removed, ids(s))
	}
	for n := range 21 {
		s.Remove(n)
	}
	if s.Remove(20) || len(s.IDs()) != 0 || len(s.Find(value(2))) != 0 {
		t.Errorf("an empty set has %s", ids(s))
	}
}

func TestNilSet(t *testing.T) { // P1, P16.1
	var s *vary.Set
	if list := s.Put([]string{"a"}, value(1), 1); len(list) != 0 {
		t.Errorf("Put = %d", list)
	}
	if s.Remove(1) || len(s.Find(value(1))) != 0 || len(s.IDs()) != 0 {
		t.Errorf("a nil set has %d", s.IDs())
	}
	if s := vary.New(); s == nil || s.Remove(0) || len(s.Find(nil)) != 0 || len(s.IDs()) != 0 {
		t.Errorf("a new set has %d", s.IDs())
	}
	if a, b := vary.New(), vary.New(); len(a.Put(nil, nil, 1)) != 0 || len(b.IDs()) != 0 {
		t.Errorf("another new set has %d", b.IDs())
	}
}

func TestResultsAreOnesOwn(t *testing.T) { // P16.1
	s := full()
	want := ids(s)
	all, found := s.IDs(), s.Find(value(3))
	clear(all)
	clear(found)
	if ids(s) != want || text(s.Find(value(3))) != "3" {
		t.Errorf("the set has changed with its results: %s, %d", ids(s), s.Find(value(3)))
	}
	// nor do the results change with the set
	all, removed := s.IDs(), s.Put([]string{"a"}, value(17), 17)
	s.Remove(16)
	s.Put([]string{"a"}, value(16), 18)
	if text(all) != want || text(removed) != "1" {
		t.Errorf("the results have changed with the set: %d, %d", all, removed)
	}
	names, _ := vary.Names(of("vary", "b, a", "vary", "c"))
	s.Put(names, nil, 20)
	names[0] = "z"
	if again, _ := vary.Names(of("vary", "b, a", "vary", "c")); !slices.Equal(again, []string{"a", "b", "c"}) {
		t.Errorf("Names = %q", again)
	}
	if list := s.Find(nil); !slices.Equal(list, []int{20}) || len(s.Find(of("a", "1"))) != 0 {
		t.Errorf("the names of a variant have changed: %d", list)
	}
}

// setCall is a Put with names, a value of the field a and an id, or a Remove.
type setCall struct {
	names string
	value string
	id    int
}

func (c setCall) do(t *testing.T, p pair) {
	t.Helper()
	switch {
	case c.names == "remove":
		p.remove(t, c.id)
	case c.names == "":
		p.put(t, nil, of("a", c.value), c.id)
	default:
		p.put(t, strings.Split(c.names, "|"), of("a", c.value), c.id)
	}
}

func TestAllShortListsOfCalls(t *testing.T) { // P16.1, P16.2, P16.3
	var calls []setCall
	for id := range 3 {
		calls = append(calls, setCall{"remove", "", id}, setCall{"a", "1", id}, setCall{"a", "2", id}, setCall{"a|b", "1", id}, setCall{"", "", id})
	}
	samples.Lists(4, calls, func(list []setCall) {
		p := newPair()
		for _, c := range list {
			c.do(t, p)
		}
		for _, f := range []field.Fields{nil, of("a", "1"), of("a", "2"), of("a", "1", "b", "1")} {
			p.find(t, f)
		}
	})
}

// randomRequest returns fields of which requests often have the same.
func randomRequest(random *rand.Rand) field.Fields {
	var f field.Fields
	for range random.Intn(4) {
		name := samples.Some(random, "a", "a", "A", "b", "c", "", "a&b")
		text := samples.Some(random, "", " ", "1", " 1", "1\t ", "2", "1,2", "1, 2", "1  2", `"`, `\`, "\n", "?", "\xff", "x=1&y")
		f = append(f, of(name, text)...)
	}
	return f
}

func randomNames(random *rand.Rand) []string {
	var names []string
	for range random.Intn(4) {
		names = append(names, samples.Some(random, oddNames...))
	}
	return names
}

func TestRandomCalls(t *testing.T) { // P16.1, P16.2, P16.3
	random := rand.New(rand.NewSource(1))
	for range 3000 {
		p := newPair()
		for range random.Intn(60) {
			switch random.Intn(8) {
			case 0:
				p.remove(t, random.Intn(40))
			case 1, 2:
				p.find(t, randomRequest(random))
			default:
				p.put(t, randomNames(random), randomRequest(random), random.Intn(40)-5)
			}
		}
	}
}

func TestRandomTexts(t *testing.T) { // P16.1
	random := rand.New(rand.NewSource(2))
	for range 100000 {
		var f field.Fields
		for range random.Intn(4) {
			text := samples.Some(random, "Accept-Encoding, accept", "b, a, B", "a,*", "x-y", "c\t, ,d,a ")
			f = append(f, of(samples.Some(random, "vary", "Vary", "VARY", "x"), samples.Spoil(random, text, ",", " ", "a", "*", `"`, "\x00", "\xff"))...)
		}
		compareNames(t, f)
		compareKey(t, randomNames(random), append(f, randomRequest(random)...))
	}
}

func TestLongInputs(t *testing.T) { // P1, P16.1
	long := strings.Repeat("a", 1<<17)
	for _, s := range []string{
		long, strings.Repeat(" ", 1<<17), strings.Repeat("\t ", 1<<16), strings.Repeat(`"`, 1<<17), strings.Repeat(`\`, 1<<17),
		strings.Repeat("a ", 1<<16), strings.Repeat(",", 1<<17), strings.Repeat("A,", 1<<16), strings.Repeat("\x00", 1<<17), strings.Repeat("\xff", 1<<17),
	} {
		compareNames(t, of("vary", s))
		compareKey(t, []string{"a", s}, of("a", s, "A", s))
		compareKey(t, []string{s}, of(s, s))
		p := newPair()
		p.put(t, []string{"a", s}, of("a", s), 1)
		p.find(t, of("a", s))
		p.put(t, []string{"a", s}, of("a", s), 2)
	}
	compareNames(t, slices.Repeat(of("vary", "b, A"), 1<<12))
	compareKey(t, slices.Repeat([]string{"a", "b"}, 1<<12), of("a", "1", "c", "2"))
	compareKey(t, []string{"a", "b"}, slices.Repeat(of("a", "1", "c", "2"), 1<<12))
}

func FuzzTexts(f *testing.F) { // P16.1
	for _, s := range []string{"", "a", "Accept-Encoding, accept", "a, *", `"a`, " b,\tA", "a b", "\x00\xff\x7f"} {
		f.Add(s, "b", "a", "1  2")
	}
	f.Fuzz(func(t *testing.T, list, more, name, text string) {
		fields := of("vary", list, name, text, "Vary", more, more, text)
		compareNames(t, fields)
		compareKey(t, []string{name, "vary", more, list}, fields)
	})
}

func FuzzSets(f *testing.F) { // P16.1, P16.2, P16.3
	f.Add("abc", "1")
	f.Add("\x01\x12\x25\x83\x11\xf0", "1 \t2")
	f.Add(strings.Repeat("abcdefgh", 10), "")
	f.Fuzz(func(t *testing.T, calls, text string) {
		p := newPair()
		for i := range len(calls) {
			c := int(calls[i])
			names := slices.Repeat([]string{"a", text}[c>>1&1:], 1+c>>2&1)
			request := of("a", text[:min(len(text), c>>3&7)], text, "1")
			switch {
			case c%2 != 0 && c>>6 == 0:
				p.remove(t, c>>3)
			case c%2 != 0:
				p.find(t, request)
			default:
				p.put(t, names, request, (c+i)&31)
			}
		}
	})
}
