package field_test

import (
	"regexp"
	"slices"
	"strings"

	"quayside/api"
	"quayside/field"
	"quayside/syntax"
)

// The functions of this file say the same as chapter 2 in another way, so
// that the tests can compare the package with them. They need not be fast.

var (
	namePattern    = regexp.MustCompile("^[!#$%&'*+.^_`|~0-9A-Za-z-]+$")
	controlPattern = regexp.MustCompile(`[\x00-\x08\x0a-\x1f\x7f]`)
	lowerReplacer  = strings.NewReplacer("A", "a", "B", "b", "C", "c", "D", "d", "E", "e", "F", "f", "G", "g",
		"H", "h", "I", "i", "J", "j", "K", "k", "L", "l", "M", "m", "N", "n", "O", "o", "P", "p", "Q", "q",
		"R", "r", "S", "s", "T", "t", "U", "u", "V", "v", "W", "w", "X", "x", "Y", "y", "Z", "z")
)

func referenceLower(s string) string {
	return lowerReplacer.Replace(s)
}

func referenceName(s string) (string, error) {
	switch {
	case !namePattern.MatchString(s):
		return "", api.ErrName
	case len(s) >= 65:
		return "", api.ErrLarge
	}
	return referenceLower(s), nil
}

func referenceValue(s string) (string, error) {
	trimmed := strings.TrimFunc(s, func(r rune) bool { return r == 9 || r == 32 })
	switch {
	case controlPattern.MatchString(s):
		return "", api.ErrForm
	case len(trimmed) >= 2049:
		return "", api.ErrLarge
	}
	return trimmed, nil
}

func referenceCheck(f field.Fields) error {
	if len(f) >= 65 {
		return api.ErrLarge
	}
	for _, x := range f {
		if name, err := referenceName(x.Name); err != nil || name != x.Name {
			return firstOf(err, api.ErrName)
		}
		if value, err := referenceValue(x.Value); err != nil || value != x.Value {
			return firstOf(err, api.ErrForm)
		}
	}
	return nil
}

func firstOf(err, other error) error {
	if err != nil {
		return err
	}
	return other
}

// places returns the indexes of the fields of the name.
func places(f field.Fields, name string) []int {
	var list []int
	for i := range f {
		if referenceLower(f[i].Name) == referenceLower(name) {
			list = append(list, i)
		}
	}
	return list
}

func referenceAll(f field.Fields, name string) []string {
	var list []string
	for _, i := range places(f, name) {
		list = append(list, f[i].Value)
	}
	return list
}

func referenceSet(f field.Fields, name, value string) field.Fields {
	list := slices.Clone(f)
	at := places(f, name)
	if len(at) == 0 {
		return append(list, field.Field{Name: referenceLower(name), Value: value})
	}
	for len(at) > 1 {
		last := at[len(at)-1]
		list = slices.Delete(list, last, last+1)
		at = at[:len(at)-1]
	}
	list[at[0]] = field.Field{Name: referenceLower(name), Value: value}
	return list
}

func referenceRemove(f field.Fields, name string) field.Fields {
	return slices.DeleteFunc(slices.Clone(f), func(x field.Field) bool {
		return referenceLower(x.Name) == referenceLower(name)
	})
}

func referenceStrip(f field.Fields) field.Fields {
	names := strings.Fields("connection keep-alive proxy-connection proxy-authenticate proxy-authorization te trailer transfer-encoding upgrade")
	for _, value := range referenceAll(f, "connection") {
		if list, err := syntax.List(value); err == nil {
			names = append(names, list...)
		}
	}
	for _, name := range names {
		f = referenceRemove(f, name)
	}
	return f
}

func referenceSame(a, b field.Fields) bool {
	for _, x := range slices.Concat(a, b) {
		if !slices.Equal(referenceAll(a, x.Name), referenceAll(b, x.Name)) {
			return false
		}
	}
	return true
}

func referenceSize(f field.Fields) int {
	var text strings.Builder
	for _, x := range f {
		text.WriteString(x.Name + ": " + x.Value + "\r\n")
	}
	return text.Len()
}
