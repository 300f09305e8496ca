package samples_test

import (
	"slices"
	"testing"

	"quayside/field"
	"quayside/samples"
)

func TestFields(t *testing.T) {
	want := field.Fields{{Name: "A", Value: "b"}, {Name: "", Value: "c"}, {Name: "A", Value: ""}}
	if f := samples.Fields("A", "b", "", "c", "A", ""); !slices.Equal(f, want) {
		t.Errorf("Fields = %q", f)
	}
	if f := samples.Fields("a"); len(f) != 0 {
		t.Errorf("Fields of a name alone = %q", f)
	}
}

func TestStrings(t *testing.T) {
	for _, c := range []struct {
		n    int
		want []string
	}{
		{-1, []string{""}},
		{0, []string{""}},
		{1, []string{"", "a", "bc"}},
		{2, []string{"", "a", "aa", "abc", "bc", "bca", "bcbc"}},
	} {
		var list []string
		samples.Strings(c.n, []string{"a", "bc"}, func(s string) { list = append(list, s) })
		slices.Sort(list)
		if !slices.Equal(list, c.want) {
			t.Errorf("Strings(%d) = %q; want %q", c.n, list, c.want)
		}
	}
}

func TestEdits(t *testing.T) {
	for _, c := range []struct {
		s       string
		n       int
		members []string
	}{
		{"", 1 + 256, []string{"", "\x00", "a", "\xff"}},
		{"ab", 1 + 3*256 + 2*257, []string{"ab", "\x00ab", "a\xffb", "abc", "a", "b", "xb", "a\x80"}},
	} {
		seen := map[string]bool{}
		n := 0
		samples.Edits(c.s, func(s string) { seen[s] = true; n++ })
		if n != c.n {
			t.Errorf("Edits(%q) are %d", c.s, n)
		}
		for _, member := range c.members {
			if !seen[member] {
				t.Errorf("Edits(%q) lack %q", c.s, member)
			}
		}
	}
}
