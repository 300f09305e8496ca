package address_test

import (
	"net/url"
	"regexp"
	"strings"

	"quayside/address"
	"quayside/api"
)

// The functions of this file say the same as chapter 3 in another way, by
// regular expressions and by the steps of RFC 3986, 5.2.4, so that the tests
// can compare the package with them. They need not be fast.

var (
	hostPattern   = regexp.MustCompile(`^[0-9A-Za-z](?:[0-9A-Za-z-]{0,61}[0-9A-Za-z])?(?:\.[0-9A-Za-z](?:[0-9A-Za-z-]{0,61}[0-9A-Za-z])?)*$`)
	targetPattern = regexp.MustCompile(`^(/(?:[0-9A-Za-z._~!$&'()*+,;=:@/-]|%[0-9A-Fa-f]{2})*)(?:(\?)((?:[0-9A-Za-z._~!$&'()*+,;=:@/?-]|%[0-9A-Fa-f]{2})*))?$`)
	textPattern   = regexp.MustCompile(`(?s)^([^/]*)(/[^?]*)(?:(\?)(.*))?$`)
	refusedCode   = regexp.MustCompile(`%(?:[01].|7[Ff])`)
	encodedCode   = regexp.MustCompile(`%..`)
	plainCode     = regexp.MustCompile(`%(?:2[DE]|3[0-9]|4[1-9A-F]|5[0-9A]|5F|6[1-9A-F]|7[0-9A]|7E)`)
	lowerCode     = regexp.MustCompile(`%(?:[a-f].|.[a-f])`)
	dotSegment    = regexp.MustCompile(`/\.\.?(?:/|$)`)
)

func referenceHost(s string) (string, error) {
	if len(s) >= 101 || !hostPattern.MatchString(s) {
		return "", api.ErrName
	}
	return strings.ToLower(s), nil
}

func referenceParse(host, target string) (address.Address, error) {
	host, err := referenceHost(host)
	if err != nil {
		return address.Address{}, err
	}
	m := targetPattern.FindStringSubmatch(target)
	if m == nil || refusedCode.MatchString(target) {
		return address.Address{}, api.ErrTarget
	}
	path, ok := referenceDots(referenceCanonical(m[1]))
	if !ok {
		return address.Address{}, api.ErrTarget
	}
	a := address.Address{Host: host, Path: path, Query: referenceCanonical(m[3]), HasQuery: m[2] == "?"}
	if referenceLength(a) >= 1025 {
		return address.Address{}, api.ErrLarge
	}
	return a, nil
}

func referenceLength(a address.Address) int {
	n := len(a.Host) + len(a.Path) + len(a.Query)
	if a.HasQuery {
		n++
	}
	return n
}

func referenceCanonical(s string) string {
	return encodedCode.ReplaceAllStringFunc(s, func(code string) string {
		code = strings.ToUpper(code)
		if plainCode.MatchString(code) {
			code, _ = url.PathUnescape(code)
		}
		return code
	})
}

// referenceDots moves the segments from input to output, one by one. It
// refuses what RFC 3986 would leave without effect.
func referenceDots(input string) (string, bool) {
	output := ""
	for input != "" {
		switch {
		case strings.HasPrefix(input, "/./"):
			input = input[2:]
		case input == "/.":
			input = "/"
		case strings.HasPrefix(input, "/../") || input == "/..":
			if output == "" {
				return "", false
			}
			output = output[:strings.LastIndex(output, "/")]
			input = "/" + strings.TrimPrefix(input[3:], "/")
		default:
			end := strings.Index(input[1:]+"/", "/") + 1
			output += input[:end]
			input = input[end:]
		}
	}
	return output, true
}

func referenceValid(a address.Address) bool {
	host, err := referenceHost(a.Host)
	if err != nil || host != a.Host || strings.Contains(a.Path, "?") || a.Query != "" && !a.HasQuery {
		return false
	}
	both := a.Path + "?" + a.Query
	canonical := !refusedCode.MatchString(both) && !plainCode.MatchString(both) && !lowerCode.MatchString(both)
	return targetPattern.MatchString(both) && canonical && !dotSegment.MatchString(a.Path) && referenceLength(a) <= 1024
}

func referenceRead(text string) (address.Address, error) {
	m := textPattern.FindStringSubmatch(text)
	if m == nil {
		return address.Address{}, api.ErrForm
	}
	a := address.Address{Host: m[1], Path: m[2], Query: m[4], HasQuery: m[3] != ""}
	if !referenceValid(a) {
		return address.Address{}, api.ErrForm
	}
	return a, nil
}

func referenceUnder(a, prefix address.Address) bool {
	if a.Host != prefix.Host {
		return false
	}
	if a.Path == prefix.Path || strings.HasPrefix(a.Path, prefix.Path+"/") {
		return true
	}
	return strings.HasPrefix(a.Path, prefix.Path) && strings.HasSuffix(prefix.Path, "/")
}

func referenceSegments(path string) []string {
	var list []string
	for i := 0; i < len(path); i++ {
		if path[i] == '/' {
			list = append(list, "")
		} else if len(list) > 0 {
			list[len(list)-1] += path[i : i+1]
		}
	}
	return list
}

func referenceArg(a address.Address, name string) (string, bool) {
	_, rest, found := strings.Cut("&"+a.Query, "&"+name+"=")
	if !found || !a.HasQuery || strings.Contains(name, "&") {
		return "", false
	}
	value, _, _ := strings.Cut(rest, "&")
	return value, true
}
