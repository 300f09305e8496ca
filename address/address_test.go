package address_test

import (
	"fmt"
	"math/rand"
	"regexp"
	"slices"
	"strings"
	"testing"

	"quayside/address"
	"quayside/api"
	"quayside/samples"
)

type addr = address.Address

const (
	unreserved = "-._~0123456789ABCDEFGHIJKLMNOPQRSTUVWXYZabcdefghijklmnopqrstuvwxyz"
	pathBytes  = unreserved + "!$&'()*+,;=:@/"
	queryBytes = pathBytes + "?"
)

// unit matches an encoded byte, or a byte that stands for itself.
var unit = regexp.MustCompile(`%..|[^%]`)

func some(random *rand.Rand, parts []string, n int) string {
	var b strings.Builder
	for range random.Intn(n + 1) {
		b.WriteString(parts[random.Intn(len(parts))])
	}
	return b.String()
}

func TestExamples(t *testing.T) { // P3.1
	a, err := address.Parse("A.Example", "/b/%7ec/./d/../%2f?x=%3d&y")
	if want := (addr{Host: "a.example", Path: "/b/~c/%2F", Query: "x=%3D&y", HasQuery: true}); a != want || err != nil {
		t.Errorf("Parse = %#v, %v; want %#v", a, err, want)
	}
	without, _ := address.Parse("a", "/a")
	with, _ := address.Parse("a", "/a?")
	if without == with || !with.HasQuery || without.HasQuery {
		t.Errorf("%#v and %#v", without, with)
	}
}

func TestHost(t *testing.T) { // P3.1
	label := strings.Repeat("Ab-0", 15) + "Xy9"
	for _, c := range []struct{ s, want string }{
		{"a", "a"},
		{"A", "a"},
		{"7", "7"},
		{"A.Example", "a.example"},
		{"127.0.0.1", "127.0.0.1"},
		{"a-b.c--d", "a-b.c--d"},
		{"XN--A.0-0.Z", "xn--a.0-0.z"},
		{label, strings.ToLower(label)},
		{label + ".a", strings.ToLower(label) + ".a"},
		{"a." + label, "a." + strings.ToLower(label)},
		{label + "." + label[27:], strings.ToLower(label + "." + label[27:])},
		{strings.Repeat("a.", 49) + "bc", strings.Repeat("a.", 49) + "bc"},
	} {
		if got, err := address.Host(c.s); got != c.want || err != nil {
			t.Errorf("Host(%q) = %q, %v; want %q", c.s, got, err, c.want)
		}
	}
	for _, s := range []string{
		"", ".", "-", "a.", ".a", "a..b", "-a", "a-", "-a.b", "a-.b", "a.-b", "a.b-", "a.-", "-.a", "--", "a b", " a", "a ", "a:80", "a/", "/",
		"a_b", "a%41", "*.a", "[::1]", "a@b", "a\x00", "\xff", "\u00e9", "\u212a", "a,b", "a\r", "a\n",
		label + "z", "a." + label + "z", label + "z.a",
		label + "." + label[26:], strings.Repeat("a.", 50) + "b", strings.Repeat("a", 101), strings.Repeat("a.", 1<<20),
	} {
		if got, err := address.Host(s); got != "" || err != api.ErrName {
			t.Errorf("Host(%.120q) = %q, %v; want ErrName", s, got, err)
		}
	}
}

func TestHostOfEachByte(t *testing.T) { // P3.1
	for c := range 256 {
		s := string([]byte{byte(c)})
		for _, text := range []string{s, "a" + s, s + "a", "a" + s + "a", "a." + s + ".a", "a" + s + ".a", "a." + s + "a"} {
			compareHost(t, text)
		}
	}
}

func compareHost(t *testing.T, s string) {
	t.Helper()
	want, wantErr := referenceHost(s)
	if got, err := address.Host(s); got != want || err != wantErr {
		t.Errorf("Host(%q) = %q, %v; want %q, %v", s, got, err, want, wantErr)
	}
}

func TestParseOfPaths(t *testing.T) { // P3.1
	for _, c := range []struct{ target, path string }{
		{"/", "/"},
		{"//", "//"},
		{"/a", "/a"},
		{"/a/", "/a/"},
		{"/A/b", "/A/b"},
		{"/a//b", "/a//b"},
		{"/.", "/"},
		{"/./", "/"},
		{"/./.", "/"},
		{"/./a", "/a"},
		{"/a/.", "/a/"},
		{"/a/./", "/a/"},
		{"/a/./b", "/a/b"},
		{"/a/..", "/"},
		{"/a/../", "/"},
		{"/a/../b", "/b"},
		{"/a/b/..", "/a/"},
		{"/a/b/../..", "/"},
		{"/a/b/../../", "/"},
		{"/a/b/../../c", "/c"},
		{"/a/../b/..", "/"},
		{"/a/./..", "/"},
		{"/a/../.", "/"},
		{"//..", "/"},
		{"//../", "/"},
		{"///..", "//"},
		{"/a//..", "/a/"},
		{"/a//../..", "/"},
		{"/a//../b", "/a/b"},
		{"/.../a", "/.../a"},
		{"/...", "/..."},
		{"/.a", "/.a"},
		{"/..a/a..", "/..a/a.."},
		{"/a./.b", "/a./.b"},
		{"/%2e", "/"},
		{"/a/%2E%2e", "/"},
		{"/a/.%2e/b", "/b"},
		{"/a/%2E./b", "/b"},
		{"/a%2f..%2Fb", "/a%2F..%2Fb"},
		{"/a%2f/..", "/"},
		{"/%41%7a%30%2d%2E%5f%7E", "/Az0-._~"},
		{"/%20%21%22%23%24%25%26%3f", "/%20%21%22%23%24%25%26%3F"},
		{"/%e9%C3%fF%80", "/%E9%C3%FF%80"},
		{"/%2541", "/%2541"},
		{"/%25%34%31", "/%2541"},
		{"/%252e%252e", "/%252e%252e"},
		{"/%25%32%65/..", "/"},
		{"/!$&'()*+,;=:@-._~", "/!$&'()*+,;=:@-._~"},
		{"/http://a/b", "/http://a/b"},
	} {
		want := addr{Host: "h", Path: c.path}
		if a, err := address.Parse("H", c.target); a != want || err != nil {
			t.Errorf("Parse(%q) = %#v, %v; want %#v", c.target, a, err, want)
		}
		want.HasQuery, want.Query = true, "/a/../%2F"
		if a, err := address.Parse("h", c.target+"?/a/%2e./%2f"); a != want || err != nil {
			t.Errorf("Parse(%q) with a query = %#v, %v; want %#v", c.target, a, err, want)
		}
	}
}

func TestParseOfQueries(t *testing.T) { // P3.1
	for _, c := range []struct{ target, path, query string }{
		{"/?", "/", ""},
		{"/??", "/", "?"},
		{"/a?b?c=?", "/a", "b?c=?"},
		{"/?a/./b/../c", "/", "a/./b/../c"},
		{"/?..", "/", ".."},
		{"/?%2e%2E/%41", "/", "../A"},
		{"/?%3f%3D%26&=", "/", "%3F%3D%26&="},
		{"/?%c3%A9%20%2b+", "/", "%C3%A9%20%2B+"},
		{"/?%2561", "/", "%2561"},
		{"/?/", "/", "/"},
		{"/?!$&'()*+,;=:@-._~/?", "/", "!$&'()*+,;=:@-._~/?"},
		{"/a/..?a/../..", "/", "a/../.."},
		{"/.?.", "/", "."},
	} {
		want := addr{Host: "h", Path: c.path, Query: c.query, HasQuery: true}
		if a, err := address.Parse("h", c.target); a != want || err != nil {
			t.Errorf("Parse(%q) = %#v, %v; want %#v", c.target, a, err, want)
		}
	}
}

func TestParseRefuses(t *testing.T) { // P3.1
	long := "/" + strings.Repeat("a", 2000)
	for _, c := range []struct {
		host, target string
		want         error
	}{
		{"h", "", api.ErrTarget},
		{"h", "x", api.ErrTarget},
		{"h", "?", api.ErrTarget},
		{"h", "?/", api.ErrTarget},
		{"h", "*", api.ErrTarget},
		{"h", " /", api.ErrTarget},
		{"h", "http://h/", api.ErrTarget},
		{"h", "%2f", api.ErrTarget},
		{"h", "%2Fa", api.ErrTarget},
		{"h", ".", api.ErrTarget},
		{"h", "./a", api.ErrTarget},
		{"h", "/a b", api.ErrTarget},
		{"h", "/a#b", api.ErrTarget},
		{"h", "/a?b#c", api.ErrTarget},
		{"h", "/\u00e9", api.ErrTarget},
		{"h", "/a%", api.ErrTarget},
		{"h", "/a%4", api.ErrTarget},
		{"h", "/a%?41", api.ErrTarget},
		{"h", "/a%4?1", api.ErrTarget},
		{"h", "/a?%", api.ErrTarget},
		{"h", "/a?%4", api.ErrTarget},
		{"h", "/%%41", api.ErrTarget},
		{"h", "/%4%31", api.ErrTarget},
		{"h", "/%4g", api.ErrTarget},
		{"h", "/%g4", api.ErrTarget},
		{"h", "/%+4", api.ErrTarget},
		{"h", "/%-4", api.ErrTarget},
		{"h", "/%4_", api.ErrTarget},
		{"h", "/% 4", api.ErrTarget},
		{"h", "/%0x41", api.ErrTarget},
		{"h", "/%\u0664\u0661", api.ErrTarget},
		{"h", "/%0a", api.ErrTarget},
		{"h", "/?%0D", api.ErrTarget},
		{"h", "/%00", api.ErrTarget},
		{"h", "/%1F", api.ErrTarget},
		{"h", "/%7f", api.ErrTarget},
		{"h", "/?%7F", api.ErrTarget},
		{"h", "/%00/../a", api.ErrTarget},
		{"h", "/..", api.ErrTarget},
		{"h", "/../", api.ErrTarget},
		{"h", "/../a", api.ErrTarget},
		{"h", "/%2e%2E/b", api.ErrTarget},
		{"h", "/./..", api.ErrTarget},
		{"h", "/a/../..", api.ErrTarget},
		{"h", "/a/../../b", api.ErrTarget},
		{"h", "/a/../../b/c", api.ErrTarget},
		{"h", "//../..", api.ErrTarget},
		{"h", "/..?a", api.ErrTarget},
		{"h", long, api.ErrLarge},
		{"h", "/?" + long, api.ErrLarge},
		// The host comes first, and the length last.
		{"-", "/", api.ErrName},
		{"-", "x", api.ErrName},
		{"", long, api.ErrName},
		{"a..b", "/..", api.ErrName},
		{"h", long + "%", api.ErrTarget},
		{"h", long + "/../..", api.ErrTarget},
		{"h", "/a?" + long + " ", api.ErrTarget},
	} {
		if a, err := address.Parse(c.host, c.target); a != (addr{}) || err != c.want {
			t.Errorf("Parse(%q, %.40q) = %#v, %v; want %v", c.host, c.target, a, err, c.want)
		}
	}
}

func TestParseOfEachByte(t *testing.T) { // P3.1
	for c := range 256 {
		s := string([]byte{byte(c)})
		a, err := address.Parse("h", "/a"+s)
		good := strings.Contains(pathBytes, s)
		if good && (a != addr{Host: "h", Path: "/a" + s} || err != nil) || !good && c != '?' && err != api.ErrTarget {
			t.Errorf("Parse with %q in the path: %#v, %v", s, a, err)
		}
		a, err = address.Parse("h", "/?a"+s)
		good = strings.Contains(queryBytes, s)
		if good && (a != addr{Host: "h", Path: "/", Query: "a" + s, HasQuery: true} || err != nil) || !good && err != api.ErrTarget {
			t.Errorf("Parse with %q in the query: %#v, %v", s, a, err)
		}
		compareParse(t, "h", s)
		compareParse(t, "h", s+"/")
	}
}

func TestParseOfEachEncodedByte(t *testing.T) { // P3.1, P3.3
	for c := range 256 {
		want := fmt.Sprintf("%%%02X", c)
		if s := string([]byte{byte(c)}); strings.Contains(unreserved, s) {
			want = s
		}
		upper, lower := fmt.Sprintf("%02X", c), fmt.Sprintf("%02x", c)
		for _, digits := range []string{upper, lower, upper[:1] + lower[1:], lower[:1] + upper[1:]} {
			path, err := address.Parse("h", "/a%"+digits)
			query, err2 := address.Parse("h", "/?a%"+digits)
			if c < 32 || c == 127 {
				if err != api.ErrTarget || err2 != api.ErrTarget {
					t.Errorf("Parse with %%%s: %v, %v", digits, err, err2)
				}
			} else if path.Path != "/a"+want || query.Query != "a"+want || err != nil || err2 != nil {
				t.Errorf("Parse with %%%s: %#v, %#v, %v, %v", digits, path, query, err, err2)
			}
		}
	}
}

func TestParseOfHexadecimalDigits(t *testing.T) { // P3.1
	for c := range 256 {
		s := string([]byte{byte(c)})
		good := strings.Contains("0123456789abcdefABCDEF", s)
		for _, code := range []string{"%a" + s, "%" + s + "0"} {
			_, err := address.Parse("h", "/"+code)
			// A first digit 0 or 1 gives a byte that is refused.
			if (err == nil) != (good && code != "%00" && code != "%10") {
				t.Errorf("Parse with %q: %v", code, err)
			}
		}
	}
}

func TestLimitOfAddresses(t *testing.T) { // P3.1, P3.3
	a := func(n int) string { return strings.Repeat("a", n) }
	host := strings.Repeat("a.", 49) + "aa"
	for _, c := range []struct {
		host, target string
		length       int
	}{
		{"h", "/" + a(1022), 1024},
		{"h", "/" + a(1023), 1025},
		{"hh", "/" + a(1022), 1025},
		{host, "/" + a(923), 1024},
		{host, "/" + a(924), 1025},
		{"h", "/" + a(500) + "?" + a(521), 1024},
		{"h", "/" + a(500) + "?" + a(522), 1025},
		{"h", "/" + a(1021) + "?", 1024},
		{"h", "/" + a(1022) + "?", 1025},
		{"h", "/?" + a(1021), 1024},
		{"h", "/?" + a(1022), 1025},
		// What is not in the address does not count, as P3.3 requires.
		{"h", "/" + strings.Repeat("%61", 1022), 1024},
		{"h", "/" + strings.Repeat("%61", 1023), 1025},
		{"h", "/?" + strings.Repeat("%7E", 1021), 1024},
		{"h", "/" + strings.Repeat("./", 5000) + a(1022), 1024},
		{"h", "/" + strings.Repeat("./", 5000) + a(1023), 1025},
		{"h", "/" + a(5000) + "/../" + a(1022), 1024},
		{"h", "/" + strings.Repeat("%2f", 340) + "aa", 1024},
		{"h", "/" + strings.Repeat("%2f", 340) + "aaa", 1025},
	} {
		got, err := address.Parse(c.host, c.target)
		if c.length > 1024 {
			if err != api.ErrLarge || got != (addr{}) {
				t.Errorf("Parse(%q, %.20q..) of %d bytes: %v", c.host, c.target, c.length, err)
			}
			continue
		}
		if n := referenceLength(got); n != c.length || err != nil {
			t.Errorf("Parse(%q, %.20q..) has %d bytes, %v; want %d", c.host, c.target, n, err, c.length)
		}
		keepPromise(t, c.host, c.target)
	}
}

func TestValidAndFormat(t *testing.T) { // P3.1
	for _, c := range []struct {
		a    addr
		text string
	}{
		{addr{Host: "a", Path: "/"}, "a/"},
		{addr{Host: "a.example", Path: "/b/~c/%2F", Query: "x=%3D&y", HasQuery: true}, "a.example/b/~c/%2F?x=%3D&y"},
		{addr{Host: "a", Path: "/", HasQuery: true}, "a/?"},
		{addr{Host: "a", Path: "/", Query: "?", HasQuery: true}, "a/??"},
		{addr{Host: "a", Path: "//", Query: "/../.", HasQuery: true}, "a//?/../."},
		{addr{Host: "a", Path: "/" + strings.Repeat("a", 1022)}, "a/" + strings.Repeat("a", 1022)},
		{addr{}, ""},
		{addr{Path: "/"}, ""},
		{addr{Host: "a"}, ""},
		{addr{Host: "a", HasQuery: true}, ""},
		{addr{Host: "A", Path: "/"}, ""},
		{addr{Host: "-", Path: "/"}, ""},
		{addr{Host: "a/", Path: "/"}, ""},
		{addr{Host: "a", Path: "b"}, ""},
		{addr{Host: "a", Path: "/", Query: "q"}, ""},
		{addr{Host: "a", Path: "/?q"}, ""},
		{addr{Host: "a", Path: "/?"}, ""},
		{addr{Host: "a", Path: "/?q", HasQuery: true}, ""},
		{addr{Host: "a", Path: "/?q", Query: "q", HasQuery: true}, ""},
		{addr{Host: "a", Path: "/?q", Query: "q"}, ""},
		{addr{Host: "a", Path: "/."}, ""},
		{addr{Host: "a", Path: "/b/.."}, ""},
		{addr{Host: "a", Path: "/.."}, ""},
		{addr{Host: "a", Path: "/%41"}, ""},
		{addr{Host: "a", Path: "/%2f"}, ""},
		{addr{Host: "a", Path: "/%0A"}, ""},
		{addr{Host: "a", Path: "/%2"}, ""},
		{addr{Host: "a", Path: "/\xff"}, ""},
		{addr{Host: "a", Path: "/", Query: "%2f", HasQuery: true}, ""},
		{addr{Host: "a", Path: "/", Query: "%41", HasQuery: true}, ""},
		{addr{Host: "a", Path: "/", Query: "#", HasQuery: true}, ""},
		{addr{Host: "a", Path: "/" + strings.Repeat("a", 1023)}, ""},
		{addr{Host: "a", Path: "/" + strings.Repeat("a", 1022), HasQuery: true}, ""},
	} {
		if got := address.Valid(c.a); got != (c.text != "") {
			t.Errorf("Valid(%#v) = %v", c.a, got)
		}
		got, err := address.Format(c.a)
		if got != c.text || (err == nil) != (c.text != "") || err != nil && err != api.ErrForm {
			t.Errorf("Format(%#v) = %.60q, %v; want %.60q", c.a, got, err, c.text)
		}
	}
}

func TestRead(t *testing.T) { // P3.1
	for _, c := range []struct {
		text string
		want addr
	}{
		{"a/", addr{Host: "a", Path: "/"}},
		{"a.b-c.1/x//y", addr{Host: "a.b-c.1", Path: "/x//y"}},
		{"a/?", addr{Host: "a", Path: "/", HasQuery: true}},
		{"a/b?c?/d/../e", addr{Host: "a", Path: "/b", Query: "c?/d/../e", HasQuery: true}},
		{"a/%2F?%2F", addr{Host: "a", Path: "/%2F", Query: "%2F", HasQuery: true}},
		{"a/A", addr{Host: "a", Path: "/A"}},
		{"a/" + strings.Repeat("a", 1022), addr{Host: "a", Path: "/" + strings.Repeat("a", 1022)}},
	} {
		if got, err := address.Read(c.text); got != c.want || err != nil {
			t.Errorf("Read(%.60q) = %#v, %v; want %#v", c.text, got, err, c.want)
		}
	}
	for _, text := range []string{
		"", "a", "/", "/a", "?", "a?", "a?b/c", "A/", "a.B/", "-/", "a./", ".a/", "a..b/", "a /", " a/", "a:80/", "http://a/",
		"a/b/../c", "a/.", "a/./b", "a/..", "a/%41", "a/%2f", "a/?%2f", "a/?%7E", "a/%0A", "a/%", "a/%4", "a/ ", "a/#", "a/\xff", "a/\n",
		"a/" + strings.Repeat("a", 1023), strings.Repeat("a.", 1000) + "a/",
	} {
		if got, err := address.Read(text); got != (addr{}) || err != api.ErrForm {
			t.Errorf("Read(%.60q) = %#v, %v; want ErrForm", text, got, err)
		}
	}
}

func TestUnder(t *testing.T) { // P3.1
	for _, c := range []struct {
		path, prefix string
		want         bool
	}{
		{"/a/b", "/a", true},
		{"/a/b", "/a/", true},
		{"/a/b", "/a/b", true},
		{"/a/b", "/", true},
		{"/a/b", "/a/b/", false},
		{"/a/b", "/ab", false},
		{"/a/bc", "/a/b", false},
		{"/ab", "/a", false},
		{"/a", "/a/b", false},
		{"/a", "/a/", false},
		{"/a/", "/a", true},
		{"/a//b", "/a/", true},
		{"/a//b", "/a//", true},
		{"/a/b", "/a//", false},
		{"/A/b", "/a", false},
		{"/", "/", true},
		{"//", "/", true},
		{"/", "//", false},
		{"/a/b", "", true},
		{"/", "", true},
		{"", "", true},
		{"a", "", false},
		{"", "/", false},
		{"", "a", false},
		{"b/a", "a", false},
		{"a", "a", true},
		{"a/", "a", true},
		{"ab", "a", false},
		{"/a?b", "/a", false},
		{"/a%2Fb", "/a", false},
		{"\xff/", "\xff", true},
	} {
		if got := address.Under(addr{Host: "h", Path: c.path}, addr{Host: "h", Path: c.prefix}); got != c.want {
			t.Errorf("Under(%q, %q) = %v", c.path, c.prefix, got)
		}
		if address.Under(addr{Host: "h", Path: c.path}, addr{Host: "H", Path: c.prefix}) {
			t.Errorf("Under(%q, %q) of different hosts", c.path, c.prefix)
		}
		with := address.Under(addr{Path: c.path, Query: "x", HasQuery: true}, addr{Path: c.prefix, Query: "y", HasQuery: true})
		if with != c.want || address.Under(addr{Path: c.path}, addr{Path: c.prefix, Query: "y"}) != c.want {
			t.Errorf("Under(%q, %q) with queries is not %v", c.path, c.prefix, c.want)
		}
	}
}

func TestSegments(t *testing.T) { // P3.1
	for _, c := range []struct {
		path string
		want []string
	}{
		{"", nil},
		{"a", nil},
		{"a?b", nil},
		{"/", []string{""}},
		{"a/", []string{""}},
		{"//", []string{"", ""}},
		{"/a", []string{"a"}},
		{"/a/", []string{"a", ""}},
		{"/a//b", []string{"a", "", "b"}},
		{"x/a/b", []string{"a", "b"}},
		{"/./../%2F", []string{".", "..", "%2F"}},
		{"/a?b/c", []string{"a?b", "c"}},
		{"\xff/\xff", []string{"\xff"}},
	} {
		if got := address.Segments(c.path); !slices.Equal(got, c.want) {
			t.Errorf("Segments(%q) = %q; want %q", c.path, got, c.want)
		}
	}
	first := address.Segments("/a/b")
	clear(first)
	if second := address.Segments("/a/b"); !slices.Equal(second, []string{"a", "b"}) {
		t.Errorf("two results of Segments share memory: %q", second)
	}
}

func TestArg(t *testing.T) { // P3.1
	for _, c := range []struct {
		query, name, want string
		found             bool
	}{
		{"p=1&q=2&q=3", "q", "2", true},
		{"p=1&q=2&q=3", "p", "1", true},
		{"p=1&q=2&q=3", "", "", false},
		{"p=1", "P", "", false},
		{"p", "p", "", false},
		{"p&p=1", "p", "1", true},
		{"p=", "p", "", true},
		{"p=&p=1", "p", "", true},
		{"pp=1", "p", "", false},
		{"qp=1", "p", "", false},
		{"p=1=2", "p", "1=2", true},
		{"p=1=2", "p=1", "2", true},
		{"=1", "", "1", true},
		{"&=", "", "", true},
		{"", "", "", false},
		{"", "p", "", false},
		{"&&p=1&", "p", "1", true},
		{"a=1&b=2", "1&b", "", false},
		{"a=1&b=2", "a=1&b", "", false},
		{"a=1?b=2", "b", "", false},
		{"a=1;b=2", "b", "", false},
		{"?a=1", "a", "", false},
		{"?a=1", "?a", "1", true},
		{"%61=1&a=%20", "a", "%20", true},
		{"%61=1", "a", "", false},
		{"\xff= #", "\xff", " #", true},
	} {
		a := addr{Host: "h", Path: "/", Query: c.query, HasQuery: true}
		if got, found := address.Arg(a, c.name); got != c.want || found != c.found {
			t.Errorf("Arg(%q, %q) = %q, %v; want %q, %v", c.query, c.name, got, found, c.want, c.found)
		}
		a.HasQuery = false
		if got, found := address.Arg(a, c.name); got != "" || found {
			t.Errorf("Arg(%q, %q) without a query = %q, %v", c.query, c.name, got, found)
		}
		if got, found := address.Arg(addr{Path: "/?" + c.query, HasQuery: true}, "p"); got != "" || found {
			t.Errorf("Arg of an empty query = %q, %v", got, found)
		}
	}
}

// compareParse checks Parse against reference_test.go, and the promises about its result.
func compareParse(t *testing.T, host, target string) {
	t.Helper()
	want, wantErr := referenceParse(host, target)
	if got, err := address.Parse(host, target); got != want || err != wantErr {
		t.Errorf("Parse(%q, %q) = %#v, %v; want %#v, %v", host, target, got, err, want, wantErr)
	}
	keepPromise(t, host, target)
}

// keepPromise is P3.2.
func keepPromise(t *testing.T, host, target string) {
	t.Helper()
	a, err := address.Parse(host, target)
	if err != nil {
		return
	}
	if !address.Valid(a) {
		t.Errorf("Parse(%q, %q) = %#v, which is not valid", host, target, a)
	}
	text, err := address.Format(a)
	if err != nil {
		t.Errorf("Format(%#v): %v", a, err)
	}
	if back, err := address.Read(text); back != a || err != nil {
		t.Errorf("Read(%q) = %#v, %v; want %#v", text, back, err, a)
	}
}

// compareAddress checks the functions of an address against reference_test.go.
func compareAddress(t *testing.T, a addr) {
	t.Helper()
	valid := referenceValid(a)
	if got := address.Valid(a); got != valid {
		t.Errorf("Valid(%#v) = %v", a, got)
	}
	text, err := address.Format(a)
	if valid && err != nil || !valid && (text != "" || err != api.ErrForm) {
		t.Errorf("Format(%#v) = %q, %v", a, text, err)
	}
	if back, err := referenceRead(text); valid && (back != a || err != nil) {
		t.Errorf("Format(%#v) = %q, which stands for %#v, %v", a, text, back, err)
	}
	if got, want := address.Segments(a.Path), referenceSegments(a.Path); !slices.Equal(got, want) {
		t.Errorf("Segments(%q) = %q; want %q", a.Path, got, want)
	}
}

func compareRead(t *testing.T, text string) {
	t.Helper()
	want, wantErr := referenceRead(text)
	if got, err := address.Read(text); got != want || err != wantErr {
		t.Errorf("Read(%q) = %#v, %v; want %#v, %v", text, got, err, want, wantErr)
	}
}

func compareUnder(t *testing.T, a, prefix addr) {
	t.Helper()
	if got := address.Under(a, prefix); got != referenceUnder(a, prefix) {
		t.Errorf("Under(%#v, %#v) = %v", a, prefix, got)
	}
}

func compareArg(t *testing.T, a addr, name string) {
	t.Helper()
	want, wantFound := referenceArg(a, name)
	if got, found := address.Arg(a, name); got != want || found != wantFound {
		t.Errorf("Arg(%#v, %q) = %q, %v; want %q, %v", a, name, got, found, want, wantFound)
	}
}

func TestAllShortHosts(t *testing.T) { // P3.1
	samples.Strings(7, []string{"a", "-", ".", "Z", "0"}, func(s string) { compareHost(t, s) })
}

func TestAllShortTargets(t *testing.T) { // P3.1, P3.2
	parts := []string{"/", ".", "a", "%2e", "%", "?", "%2f", "1"}
	samples.Strings(5, parts, func(s string) {
		compareParse(t, "h", s)
		compareParse(t, "h", "/"+s)
		compareRead(t, "h/"+s)
		compareAddress(t, addr{Host: "h", Path: "/" + s})
	})
	samples.Strings(8, []string{"/", ".", "a"}, func(s string) {
		compareParse(t, "h", "/"+s)
		compareRead(t, s)
		compareAddress(t, addr{Host: "h", Path: s})
	})
}

func TestAllShortQueries(t *testing.T) { // P3.1
	samples.Strings(6, []string{"a", "=", "&", "b", "/"}, func(s string) {
		a := addr{Host: "h", Path: "/", Query: s, HasQuery: true}
		compareAddress(t, a)
		for _, name := range []string{"", "a", "b", "aa", "a=", "a&b", "="} {
			compareArg(t, a, name)
		}
	})
}

func TestUnderOfAllShortPaths(t *testing.T) { // P3.1
	var paths []string
	samples.Strings(4, []string{"/", "a", "b"}, func(s string) { paths = append(paths, s) })
	for _, path := range paths {
		for _, prefix := range paths {
			compareUnder(t, addr{Path: path}, addr{Path: prefix})
		}
	}
}

func TestRandomAddresses(t *testing.T) { // P3.1, P3.2
	random := rand.New(rand.NewSource(1))
	hosts := []string{"a", "B", "a.example", "-", "a.", "x-1"}
	parts := []string{"/", "/", "/", "/.", "/..", "/a", "b", ".", "%2e", "%2F", "%7e", "%C3%a9", "%20", "%25", "?", "&", "=", ":", "@", "~"}
	bad := append(slices.Clone(parts), "%", "%0a", "%7f", " ", "#", "\xff")
	for range 20000 {
		host := hosts[random.Intn(len(hosts))]
		compareParse(t, host, "/"+some(random, parts, 12))
		compareParse(t, host, "/"+some(random, bad, 12))
		compareRead(t, host+"/"+some(random, parts, 6))
		a := addr{Host: host, Path: "/" + some(random, parts, 4), Query: some(random, parts, 3), HasQuery: random.Intn(2) == 0}
		compareAddress(t, a)
	}
}

// spell returns another spelling of s: encoded bytes with digits of another
// case, and unreserved bytes that are encoded.
func spell(random *rand.Rand, s string) string {
	return unit.ReplaceAllStringFunc(s, func(u string) string {
		switch {
		case len(u) == 1 && strings.Contains(unreserved, u) && random.Intn(3) == 0:
			return someCase(random, fmt.Sprintf("%%%x", u))
		case len(u) > 1:
			return someCase(random, u)
		}
		return u
	})
}

func someCase(random *rand.Rand, code string) string {
	b := []byte(code)
	for i, c := range b {
		b[i] = []byte{strings.ToLower(string(c))[0], strings.ToUpper(string(c))[0]}[random.Intn(2)]
	}
	return string(b)
}

// addDots returns path with more dot segments, which lead to the same.
func addDots(random *rand.Rand, path string) string {
	var b strings.Builder
	list := strings.Split(path[1:], "/")
	for i, segment := range list {
		for random.Intn(3) == 0 {
			b.WriteString(someDetour(random))
		}
		if i == len(list)-1 && segment == "" && random.Intn(2) == 0 {
			segment = strings.TrimPrefix(someDetour(random), "/")
		}
		b.WriteString("/" + segment)
	}
	return b.String()
}

func someDetour(random *rand.Rand) string {
	return []string{"/.", "/x/..", "//..", "/x/y/../..", "/x/./..", "/.../..", "/%2F/.."}[random.Intn(7)]
}

func TestTargetsOfTheSameAddress(t *testing.T) { // P3.3
	random := rand.New(rand.NewSource(2))
	parts := []string{"/", "/", "a", "Z", "0", "-", ".", "_", "~", "%2f", "%C3%a9", "%25", "%3F", "!", "&", "=", ":", "@"}
	for range 20000 {
		path, query := "/"+some(random, parts, 12), "?"+some(random, parts, 6)
		want, err := address.Parse("a.Example", path+query)
		if err != nil {
			continue
		}
		for range 4 {
			target := spell(random, addDots(random, path)) + spell(random, query)
			if got, err := address.Parse("A.eXample", target); got != want || err != nil {
				t.Errorf("Parse(%q) = %#v, %v; Parse(%q) = %#v", target, got, err, path+query, want)
			}
		}
	}
}

func TestTargetsOfDifferentAddresses(t *testing.T) { // P3.1, P3.3
	targets := []string{
		"/", "//", "/a", "/A", "/a/", "/a//", "/a?", "/a??", "/a?b", "/a?B", "/a?b&", "/a/?b", "/a%2F", "/a%3F", "/a%3Fb", "/a%25", "/a%2541",
		"/a?%2F", "/a?/", "/a?.", "/a?./", "/a+", "/a%20", "/a%2B", "/a:", "/a%3A", "/a/b", "/a%2Fb", "/a//b", "/a;b", "/a%3Bb",
	}
	seen := map[addr]string{}
	for _, target := range targets {
		a, err := address.Parse("h", target)
		if before, found := seen[a]; found || err != nil {
			t.Errorf("Parse(%q) = %#v, %v, as %q", target, a, err, before)
		}
		seen[a] = target
	}
}

func FuzzAddresses(f *testing.F) { // P3.1, P3.2, P3.3
	f.Add("A.Example", "/b/%7ec/./d/../%2f?x=%3d&y", "a/?", "x", int64(1))
	f.Add("-", "/%", "/..", "", int64(2))
	f.Fuzz(func(t *testing.T, host, target, text, name string, seed int64) {
		compareHost(t, host)
		compareParse(t, host, target)
		compareParse(t, "h", "/"+target)
		compareRead(t, text)
		compareRead(t, host+"/"+text)
		a, b := addr{Host: "h", Path: "/" + text, Query: target, HasQuery: len(name)%2 == 0}, addr{Host: host, Path: target}
		compareAddress(t, a)
		compareAddress(t, b)
		compareUnder(t, a, addr{Host: a.Host, Path: target})
		compareUnder(t, b, addr{Host: host, Path: name})
		compareArg(t, a, name)
		want, err := address.Parse("h", "/"+target)
		if err != nil {
			return
		}
		random := rand.New(rand.NewSource(seed))
		same := spell(random, addDots(random, want.Path))
		if want.HasQuery {
			same += "?" + spell(random, want.Query)
		}
		if got, err := address.Parse("H", same); got != want || err != nil {
			t.Errorf("Parse(%q) = %#v, %v; want %#v", same, got, err, want)
		}
	})
}

func TestLongInputs(t *testing.T) { // P1
	const n = 1 << 20
	for _, c := range []struct {
		target string
		want   error
	}{
		{strings.Repeat("/", n), api.ErrLarge},
		{strings.Repeat("/a", n), api.ErrLarge},
		{"/?" + strings.Repeat("a", n), api.ErrLarge},
		{strings.Repeat("/.", n), nil},
		{strings.Repeat("/%2e", n), nil},
		{strings.Repeat("/a/..", n), nil},
		{strings.Repeat("/a", n) + strings.Repeat("/..", n), nil},
		{strings.Repeat("/a", n) + strings.Repeat("/..", n+1), api.ErrTarget},
		{strings.Repeat("/..", n), api.ErrTarget},
		{"/" + strings.Repeat("%", n), api.ErrTarget},
	} {
		a, err := address.Parse("h", c.target)
		if err != c.want || err == nil && a != (addr{Host: "h", Path: "/"}) {
			t.Errorf("Parse(%.20q..) = %#v, %v; want %v", c.target, a, err, c.want)
		}
	}
	if list := address.Segments(strings.Repeat("/", n)); len(list) != n {
		t.Errorf("Segments gives %d", len(list))
	}
	query := addr{Query: strings.Repeat("a&", n) + "a=1", HasQuery: true}
	if value, found := address.Arg(query, "a"); value != "1" || !found {
		t.Errorf("Arg = %q, %v", value, found)
	}
	if value, found := address.Arg(query, strings.Repeat("a", n)); value != "" || found {
		t.Errorf("Arg of a long name = %q, %v", value, found)
	}
}
