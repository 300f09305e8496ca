package syntax_test

import (
	"regexp"
	"strings"
)

// The functions of this file say the same as chapter 1 in another way, by
// regular expressions, so that the tests can compare the package with them.

var (
	tokenPattern   = regexp.MustCompile("^[!#$%&'*+.^_`|~0-9A-Za-z-]+$")
	controlPattern = regexp.MustCompile(`[\x00-\x08\x0a-\x1f\x7f]`)
	quotedPattern  = regexp.MustCompile(`(?s)"(?:[^"\\]|\\.)*"`)
	closedPattern  = regexp.MustCompile(`(?s)^(?:[^"]|"(?:[^"\\]|\\.)*")*$`)
	wholePattern   = regexp.MustCompile(`(?s)^"(?:[^"\\]|\\.)*"$`)
	escapePattern  = regexp.MustCompile(`(?s)\\(.)`)
	digitsPattern  = regexp.MustCompile(`^[0-9]+$`)
)

func referenceToken(s string) bool {
	return tokenPattern.MatchString(s)
}

func referenceUnquote(s string) (string, bool) {
	if controlPattern.MatchString(s) || !wholePattern.MatchString(s) {
		return "", false
	}
	return escapePattern.ReplaceAllString(s[1:len(s)-1], "$1"), true
}

// referenceParts blanks out the quoted parts of s, and finds the separators
// in what is left.
func referenceParts(s string, separator string) ([]string, bool) {
	if controlPattern.MatchString(s) || !closedPattern.MatchString(s) {
		return nil, false
	}
	mask := quotedPattern.ReplaceAllStringFunc(s, func(q string) string {
		return strings.Repeat("x", len(q))
	})
	var parts []string
	at := 0
	for _, m := range strings.Split(mask, separator) {
		parts = append(parts, strings.Trim(s[at:at+len(m)], " \t"))
		at += len(m) + len(separator)
	}
	return parts, true
}

func referenceList(s string) ([]string, bool) {
	parts, ok := referenceParts(s, ",")
	var list []string
	for _, p := range parts {
		if p != "" {
			list = append(list, p)
		}
	}
	return list, ok
}

type pair struct{ name, value string }

func referenceSplit(s string) (string, []pair, bool) {
	parts, ok := referenceParts(s, ";")
	if !ok {
		return "", nil, false
	}
	var list []pair
	for _, p := range parts[1:] {
		if p == "" {
			continue
		}
		name, text, _ := strings.Cut(p, "=")
		value, quoted := referenceUnquote(text)
		if referenceToken(text) {
			value, quoted = text, true
		}
		if !referenceToken(name) || !quoted {
			return "", nil, false
		}
		list = append(list, pair{strings.ToLower(name), value})
	}
	return parts[0], list, true
}

func referenceNumber(s string) (digits, small bool) {
	return digitsPattern.MatchString(s), len(s) <= 15
}
