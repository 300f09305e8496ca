package sole_test

import (
	"testing"

	"quayside/samples"
	"quayside/sole"
)

func TestValue(t *testing.T) { // P5.1, P14.1, P15.1
	for _, c := range []struct {
		list  []string
		name  string
		value string
		found bool
	}{
		{nil, "a", "", false},
		{[]string{"b", "1"}, "a", "", false},
		{[]string{"a", "1"}, "a", "1", true},
		{[]string{"a", ""}, "a", "", true},
		{[]string{"A", "1"}, "a", "1", true},
		{[]string{"a", "1"}, "A", "1", true},
		{[]string{"b", "2", "a", " 1, 2\xff", "c", "3"}, "a", " 1, 2\xff", true},
		{[]string{"a", "1", "a", "1"}, "a", "", false},
		{[]string{"a", "1", "b", "2", "A", ""}, "a", "", false},
		{[]string{"a", "", "a", "1"}, "a", "", false},
		{[]string{"a", "1", "a", "2", "a", "3"}, "a", "", false},
		{[]string{"a ", "1", "aa", "2"}, "a", "", false},
		{[]string{"", "1"}, "", "1", true},
	} {
		value, found := sole.Value(samples.Fields(c.list...), c.name)
		if value != c.value || found != c.found {
			t.Errorf("Value(%q, %q) = %q, %t", c.list, c.name, value, found)
		}
	}
}
