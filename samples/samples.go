// Package samples makes inputs for the tests of the other packages. It is no
// layer, and no layer imports it.
package samples

import "quayside/field"

// Fields returns the fields with the names and values given in turn.
func Fields(texts ...string) field.Fields {
	var f field.Fields
	for i := 0; i+1 < len(texts); i += 2 {
		f = append(f, field.Field{Name: texts[i], Value: texts[i+1]})
	}
	return f
}

// Strings calls use with every string of at most n of the parts.
func Strings(n int, parts []string, use func(s string)) {
	extend("", n, parts, use)
}

// extend calls use with s and with s followed by at most n of the parts.
func extend(s string, n int, parts []string, use func(s string)) {
	use(s)
	if n <= 0 {
		return
	}
	for _, part := range parts {
		extend(s+part, n-1, parts, use)
	}
}

// Edits calls use with s and with every string that one byte more, one byte
// less or another byte makes of it.
func Edits(s string, use func(s string)) {
	use(s)
	for at := range len(s) + 1 {
		for c := range 256 {
			use(s[:at] + string([]byte{byte(c)}) + s[at:])
		}
	}
	for at := range len(s) {
		use(s[:at] + s[at+1:])
		for c := range 256 {
			use(s[:at] + string([]byte{byte(c)}) + s[at+1:])
		}
	}
}
