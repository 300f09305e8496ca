package samples_test

import (
	"math"
	"math/rand"
	"slices"
	"strings"
	"testing"

	"quayside/clock"
	"quayside/field"
	"quayside/httpdate"
	"quayside/samples"
)

func TestDates(t *testing.T) {
	for _, c := range []struct {
		date    string
		seconds int
	}{
		{samples.Date, 784111777},
		{samples.Later, 784111837},
		{samples.Sooner, 784110777},
		{samples.FirstDate, 0},
		{samples.LastDate, 253402300799},
	} {
		if got, err := httpdate.Parse(c.date); got != c.seconds || err != nil {
			t.Errorf("%s is %d, %v; want %d", c.date, got, err, c.seconds)
		}
	}
}

func TestFields(t *testing.T) {
	want := field.Fields{{Name: "A", Value: "b"}, {Name: "", Value: "c"}, {Name: "A", Value: ""}}
	if f := samples.Fields("A", "b", "", "c", "A", ""); !slices.Equal(f, want) {
		t.Errorf("Fields = %q", f)
	}
	if f := samples.Fields("a"); len(f) != 0 {
		t.Errorf("Fields of a name alone = %q", f)
	}
}

func TestStrings(t *testing.T) {
	for _, c := range []struct {
		n    int
		want []string
	}{
		{-1, []string{""}},
		{0, []string{""}},
		{1, []string{"", "a", "bc"}},
		{2, []string{"", "a", "aa", "abc", "bc", "bca", "bcbc"}},
	} {
		var list []string
		samples.Strings(c.n, []string{"a", "bc"}, func(s string) { list = append(list, s) })
		slices.Sort(list)
		if !slices.Equal(list, c.want) {
			t.Errorf("Strings(%d) = %q; want %q", c.n, list, c.want)
		}
	}
}

func TestLists(t *testing.T) {
	for _, c := range []struct {
		n    int
		want [][]int
	}{
		{-1, [][]int{{}}},
		{0, [][]int{{}}},
		{1, [][]int{{}, {1}, {23}}},
		{2, [][]int{{}, {1}, {1, 1}, {1, 23}, {23}, {23, 1}, {23, 23}}},
	} {
		var lists [][]int
		samples.Lists(c.n, []int{1, 23}, func(list []int) { lists = append(lists, list) })
		slices.SortFunc(lists, slices.Compare[[]int])
		if !slices.EqualFunc(lists, c.want, slices.Equal[[]int]) {
			t.Errorf("Lists(%d) = %d; want %d", c.n, lists, c.want)
		}
	}
}

func TestListsOfTheirOwn(t *testing.T) {
	n := 0
	samples.Lists(4, []string{"a", "b"}, func(list []string) {
		if slices.Contains(list, "x") {
			t.Errorf("Lists share memory: %q", list)
		}
		for i := range list {
			list[i] = "x"
		}
		list = append(list, "x")
		n++
	})
	if n != 31 {
		t.Errorf("Lists are %d", n)
	}
}

func TestSubsets(t *testing.T) {
	var sets []string
	samples.Subsets([]string{"a", "b", "cd"}, func(list []string) { sets = append(sets, strings.Join(list, "|")) })
	slices.Sort(sets)
	if want := []string{"", "a", "a|b", "a|b|cd", "a|cd", "b", "b|cd", "cd"}; !slices.Equal(sets, want) {
		t.Errorf("Subsets = %q; want %q", sets, want)
	}
	n := 0
	samples.Subsets(nil, func(list []string) { n += 1 + len(list) })
	if n != 1 {
		t.Errorf("Subsets of nothing have %d lists and texts", n)
	}
}

func TestEdits(t *testing.T) {
	for _, c := range []struct {
		s       string
		n       int
		members []string
	}{
		{"", 1 + 256, []string{"", "\x00", "a", "\xff"}},
		{"ab", 1 + 3*256 + 2*257, []string{"ab", "\x00ab", "a\xffb", "abc", "a", "b", "xb", "a\x80"}},
	} {
		seen := map[string]bool{}
		n := 0
		samples.Edits(c.s, func(s string) { seen[s] = true; n++ })
		if n != c.n {
			t.Errorf("Edits(%q) are %d", c.s, n)
		}
		for _, member := range c.members {
			if !seen[member] {
				t.Errorf("Edits(%q) lack %q", c.s, member)
			}
		}
	}
}

func TestBytewise(t *testing.T) {
	if parts := samples.Bytewise("a\xff\u00e9"); !slices.Equal(parts, []string{"a", "\xff", "\xc3", "\xa9"}) {
		t.Errorf("Bytewise = %q", parts)
	}
	if parts := samples.Bytewise(""); len(parts) != 0 {
		t.Errorf("Bytewise of nothing = %q", parts)
	}
}

func TestAround(t *testing.T) {
	ends := []int{math.MinInt, math.MinInt + 1, -1 << 62, 1<<62 - 1, math.MaxInt - 1, math.MaxInt}
	if list := samples.Around(); !slices.Equal(list, ends) {
		t.Errorf("Around nothing = %d", list)
	}
	if list := samples.Around(-1, 7); !slices.Equal(list, append(ends, -2, -1, 0, 6, 7, 8)) {
		t.Errorf("Around = %d", list)
	}
}

func TestClocks(t *testing.T) {
	for ppm := 0; ppm <= 100000; ppm += 100 {
		clocks := samples.Clocks(ppm)
		if len(clocks) != 3 || clocks[1].Num != clocks[1].Den {
			t.Fatalf("Clocks(%d) = %+v", ppm, clocks)
		}
		for _, c := range clocks {
			if !clock.Within(c, ppm) {
				t.Errorf("%+v is not within %d", c, ppm)
			}
		}
		slow, fast := clocks[0], clocks[2]
		if slow.Num++; ppm > 0 && (fast.Num <= fast.Den || slow.Num > slow.Den || clock.Within(fast, ppm-1)) {
			t.Errorf("Clocks(%d) = %+v", ppm, clocks)
		}
	}
}

func TestReading(t *testing.T) {
	if n := samples.Reading(clock.Clock{Offset: 5, Num: 11, Den: 10}, 25); n != 32 {
		t.Errorf("Reading = %d", n)
	}
	defer func() {
		if recover() == nil {
			t.Error("Reading of a clock that stands still does not panic")
		}
	}()
	samples.Reading(clock.Clock{Den: 1}, 0)
}

// distinct returns what some calls of f return, sorted and each once.
func distinct(f func() string) []string {
	var list []string
	for range 2000 {
		list = append(list, f())
	}
	slices.Sort(list)
	return slices.Compact(list)
}

func TestSome(t *testing.T) {
	random := rand.New(rand.NewSource(1))
	list := distinct(func() string { return samples.Some(random, "a", "", "c") })
	if !slices.Equal(list, []string{"", "a", "c"}) {
		t.Errorf("Some = %q", list)
	}
}

func TestSpoil(t *testing.T) {
	random := rand.New(rand.NewSource(2))
	list := distinct(func() string { return samples.Spoil(random, "ab", "xy") })
	for _, s := range []string{"ab", "xyab", "xyb", "axyb", "axy", "xyxyb"} {
		if !slices.Contains(list, s) {
			t.Errorf("Spoil never returns %q, but %q", s, list)
		}
	}
}

func TestCuts(t *testing.T) {
	random := rand.New(rand.NewSource(3))
	for _, s := range []string{"", "a", "abc", strings.Repeat("abc", 100)} {
		for range 100 {
			if parts := samples.Cuts(random, s); strings.Join(parts, "") != s {
				t.Errorf("Cuts(%q) = %q", s, parts)
			}
		}
	}
	list := distinct(func() string { return strings.Join(samples.Cuts(random, "abc"), "|") })
	for _, s := range []string{"abc", "a|b|c", "ab|c", "a|bc", "|abc", "a||bc"} {
		if !slices.Contains(list, s) {
			t.Errorf("Cuts never returns %q, but %q", s, list)
		}
	}
}
