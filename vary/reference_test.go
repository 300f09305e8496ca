package vary_test

import (
	"maps"
	"regexp"
	"slices"
	"strings"

	"quayside/ascii"
	"quayside/field"
)

// The functions of this file say the same as chapter 16 in another way: by
// regular expressions for the lists, names and values, and by a table of variants
// by their ids that have the time of their Put and the values themselves instead
// of a key, so that the tests can compare the package with them. They need not be
// fast.

const namePattern = "[-!#$%&'*+.^_`|~0-9A-Za-z]{1,64}"

var (
	listPattern    = regexp.MustCompile(`\A[ \t]*(?:` + namePattern + `[ \t]*)?(?:,[ \t]*(?:` + namePattern + `[ \t]*)?)*\z`)
	elementPattern = regexp.MustCompile(namePattern)
	starPattern    = regexp.MustCompile(`(?:\A|,)[ \t]*\*[ \t]*(?:,|\z)`)
	endsPattern    = regexp.MustCompile(`\A[ \t]+|[ \t]+\z`)
	blanksPattern  = regexp.MustCompile(`[ \t]+`)
	controlPattern = regexp.MustCompile(`[\x00-\x1f\x7f]`)
	quoter         = strings.NewReplacer(`\`, `\\`, `"`, `\"`)
)

func referenceNames(f field.Fields) ([]string, bool) {
	names := map[string]bool{}
	for _, x := range f {
		if ascii.Lower(x.Name) != "vary" {
			continue
		}
		if !listPattern.MatchString(x.Value) || starPattern.MatchString(x.Value) {
			return nil, true
		}
		for _, element := range elementPattern.FindAllString(x.Value, -1) {
			names[ascii.Lower(element)] = true
		}
	}
	return slices.Sorted(maps.Keys(names)), false
}

// referenceValue returns the normalized value of a name after a "+", or "-" if
// there are no fields of it.
func referenceValue(name string, f field.Fields) string {
	text := "-"
	for _, x := range f {
		if ascii.Lower(x.Name) != ascii.Lower(name) {
			continue
		}
		value := endsPattern.ReplaceAllString(x.Value, "")
		value = blanksPattern.ReplaceAllString(value, " ")
		value = controlPattern.ReplaceAllString(value, "?")
		if text == "-" {
			text = "+" + value
		} else {
			text += "," + value
		}
	}
	return text
}

func referenceValues(names []string, f field.Fields) []string {
	var values []string
	for _, name := range names {
		values = append(values, referenceValue(name, f))
	}
	return values
}

func referenceKey(names []string, f field.Fields) string {
	text := ""
	for i, value := range referenceValues(names, f) {
		text += "&" + names[i]
		if value != "-" {
			text += `="` + quoter.Replace(value[1:]) + `"`
		}
	}
	return strings.TrimPrefix(text, "&")
}

// referenceVariant is a variant with the number of the Put that added it.
type referenceVariant struct {
	put           int
	names, values []string
}

// referenceSet is a set with the number of Puts so far.
type referenceSet struct {
	puts     int
	variants map[int]referenceVariant
}

func newReference() *referenceSet {
	return &referenceSet{variants: map[int]referenceVariant{}}
}

// ids returns the ids of all variants, the newest first.
func (s *referenceSet) ids() []int {
	return slices.SortedFunc(maps.Keys(s.variants), func(a, b int) int {
		return s.variants[b].put - s.variants[a].put
	})
}

func (s *referenceSet) put(names []string, f field.Fields, id int) []int {
	s.puts++
	added := referenceVariant{s.puts, slices.Clone(names), referenceValues(names, f)}
	var removed []int
	for other, v := range s.variants {
		if other != id && slices.Equal(v.names, added.names) && slices.Equal(v.values, added.values) {
			removed = append(removed, other)
		}
	}
	for _, other := range removed {
		delete(s.variants, other)
	}
	s.variants[id] = added
	for len(s.variants) > 16 {
		list := s.ids()
		last := list[len(list)-1]
		delete(s.variants, last)
		removed = append(removed, last)
	}
	return removed
}

func (s *referenceSet) find(f field.Fields) []int {
	return slices.DeleteFunc(s.ids(), func(id int) bool {
		v := s.variants[id]
		return !slices.Equal(referenceValues(v.names, f), v.values)
	})
}

func (s *referenceSet) remove(id int) bool {
	_, found := s.variants[id]
	delete(s.variants, id)
	return found
}
