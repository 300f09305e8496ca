// Package syntax reads and writes the building blocks of HTTP field values:
// tokens, quoted strings, lists and parameters. It is layer 1: see
// shared/doc/01-syntax.md.
package syntax

import (
	"strings"

	"quayside/api"
	"quayside/ascii"
)

// maxDigits keeps numbers far from the end of an int, so that their sums and
// products with the limits of api do not wrap around.
const maxDigits = 15

// Param is a parameter of a field value: name=value.
type Param struct{ Name, Value string }

// Token reports whether s is a token.
func Token(s string) bool {
	for i := 0; i < len(s); i++ {
		if !isTokenByte(s[i]) {
			return false
		}
	}
	return s != ""
}

// Quote returns the quoted string that stands for s.
func Quote(s string) (string, error) {
	if ascii.HasControl(s) {
		return "", api.ErrForm
	}
	var b strings.Builder
	b.WriteByte('"')
	for i := 0; i < len(s); i++ {
		if s[i] == '"' || s[i] == '\\' {
			b.WriteByte('\\')
		}
		b.WriteByte(s[i])
	}
	b.WriteByte('"')
	return b.String(), nil
}

// Unquote returns what the quoted string s stands for.
func Unquote(s string) (string, error) {
	if len(s) < 2 || s[0] != '"' || s[len(s)-1] != '"' || ascii.HasControl(s) {
		return "", api.ErrForm
	}
	items := s[1 : len(s)-1]
	var b strings.Builder
	for i := 0; i < len(items); i++ {
		if items[i] == '"' {
			return "", api.ErrForm
		}
		if items[i] == '\\' {
			i++
			// A \ at the end of the items escapes the last ", so that nothing ends s.
			if i == len(items) {
				return "", api.ErrForm
			}
		}
		b.WriteByte(items[i])
	}
	return b.String(), nil
}

// List returns the elements of the comma-separated list s.
func List(s string) ([]string, error) {
	parts, err := divide(s, ',')
	if err != nil {
		return nil, err
	}
	var list []string
	for _, part := range parts {
		if part != "" {
			list = append(list, part)
		}
	}
	return list, nil
}

// Split divides s into its value and the parameters that follow it.
func Split(s string) (string, []Param, error) {
	parts, err := divide(s, ';')
	if err != nil {
		return "", nil, err
	}
	var list []Param
	for _, part := range parts[1:] {
		if part == "" {
			continue
		}
		p, err := readParam(part)
		if err != nil {
			return "", nil, err
		}
		list = append(list, p)
	}
	return parts[0], list, nil
}

// Join is the inverse of Split. It does not check value.
func Join(value string, list []Param) (string, error) {
	var b strings.Builder
	b.WriteString(value)
	for _, p := range list {
		if !Token(p.Name) {
			return "", api.ErrForm
		}
		text := p.Value
		if !Token(text) {
			quoted, err := Quote(text)
			if err != nil {
				return "", err
			}
			text = quoted
		}
		b.WriteString("; ")
		b.WriteString(ascii.Lower(p.Name))
		b.WriteByte('=')
		b.WriteString(text)
	}
	return b.String(), nil
}

// Number returns the number that the digits of s stand for.
func Number(s string) (int, error) {
	if s == "" {
		return 0, api.ErrForm
	}
	for i := 0; i < len(s); i++ {
		if !ascii.IsDigit(s[i]) {
			return 0, api.ErrForm
		}
	}
	if len(s) > maxDigits {
		return 0, api.ErrLarge
	}
	n := 0
	for i := 0; i < len(s); i++ {
		n = 10*n + int(s[i]-'0')
	}
	return n, nil
}

// divide returns the trimmed parts of s between the separators outside of
// quoted parts. There is always a first part, which may be empty.
func divide(s string, separator byte) ([]string, error) {
	if ascii.HasControl(s) {
		return nil, api.ErrForm
	}
	var parts []string
	quoted := false
	start := 0
	for i := 0; i < len(s); i++ {
		switch {
		case s[i] == '"':
			quoted = !quoted
		case s[i] == '\\' && quoted:
			// Outside of quoted parts a \ is a byte like any other.
			i++
		case s[i] == separator && !quoted:
			parts = append(parts, ascii.Trim(s[start:i]))
			start = i + 1
		}
	}
	if quoted {
		return nil, api.ErrForm
	}
	return append(parts, ascii.Trim(s[start:])), nil
}

// readParam reads name=value, where value is a token or a quoted string.
func readParam(s string) (Param, error) {
	name, value, found := strings.Cut(s, "=")
	if !found || !Token(name) {
		return Param{}, api.ErrForm
	}
	if !Token(value) {
		text, err := Unquote(value)
		if err != nil {
			return Param{}, err
		}
		value = text
	}
	return Param{Name: ascii.Lower(name), Value: value}, nil
}

func isTokenByte(c byte) bool {
	switch c {
	case '!', '#', '$', '%', '&', '\'', '*', '+', '-', '.', '^', '_', '`', '|', '~':
		return true
	}
	return ascii.IsAlphanumeric(c)
}
