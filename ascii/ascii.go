// Package ascii tells apart and changes bytes as chapter 1 and the rules for
// all layers define them, for the layers that need the same. Bytes outside of
// ASCII are never changed.
package ascii

import "strings"

// blanks are the bytes that may surround the parts of a value.
const blanks = " \t"

// Lower returns s with the letters A to Z in lower case. (Functions for
// Unicode would also change other letters, and bytes that are no text.)
func Lower(s string) string {
	b := []byte(s)
	for i, c := range b {
		if 'A' <= c && c <= 'Z' {
			b[i] = c - 'A' + 'a'
		}
	}
	return string(b)
}

// Trim returns s without the blanks at both ends.
func Trim(s string) string {
	return strings.Trim(s, blanks)
}

// IsControl reports whether c is a control byte. A tab is none.
func IsControl(c byte) bool {
	return c < ' ' && c != '\t' || c == 127
}

// HasControl reports whether s has a control byte.
func HasControl(s string) bool {
	for i := 0; i < len(s); i++ {
		if IsControl(s[i]) {
			return true
		}
	}
	return false
}

// IsDigit reports whether c is one of 0 to 9.
func IsDigit(c byte) bool {
	return '0' <= c && c <= '9'
}

// IsAlphanumeric reports whether c is a letter or a digit.
func IsAlphanumeric(c byte) bool {
	return IsDigit(c) || 'a' <= c && c <= 'z' || 'A' <= c && c <= 'Z'
}
