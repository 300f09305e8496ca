// Package sole finds fields of which there may be one only, for the layers that
// need the same.
package sole

import "quayside/field"

// Value returns the value of the field of the name, and true, if there is
// exactly one. (Not so field.Get, which makes one value of several.)
func Value(f field.Fields, name string) (string, bool) {
	list := field.All(f, name)
	if len(list) != 1 {
		return "", false
	}
	return list[0], true
}
