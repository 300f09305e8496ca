package syntax_test

import (
	"fmt"
	"math/rand"
	"slices"
	"strconv"
	"strings"
	"testing"

	"quayside/api"
	"quayside/samples"
	"quayside/syntax"
)

type params = []syntax.Param

func letters(s string) []string {
	return strings.Split(s, "")
}

// controls are all the bytes that chapter 1 calls control bytes.
func controls() []string {
	list := []string{"\x7f"}
	for c := range 32 {
		if c != 9 {
			list = append(list, string([]byte{byte(c)}))
		}
	}
	return list
}

func TestTokenTakesTheListedBytesAlone(t *testing.T) { // P1.1
	const good = "!#$%&'*+-.^_`|~0123456789ABCDEFGHIJKLMNOPQRSTUVWXYZabcdefghijklmnopqrstuvwxyz"
	for c := range 256 {
		s := string([]byte{byte(c)})
		want := strings.Contains(good, s)
		for _, text := range []string{s, "a" + s, s + "a", "a" + s + "a"} {
			if got := syntax.Token(text); got != want {
				t.Errorf("Token(%q) = %v", text, got)
			}
		}
	}
	if syntax.Token("") {
		t.Error("the empty string is a token")
	}
	if !syntax.Token(good) || !syntax.Token(strings.Repeat("a", 1<<16)) {
		t.Error("a long token is refused")
	}
	if syntax.Token("\u00e9") || syntax.Token("\u212a") {
		t.Error("a letter outside of ASCII is taken")
	}
}

func TestQuote(t *testing.T) { // P1.1
	for _, c := range []struct{ s, want string }{
		{``, `""`},
		{`a`, `"a"`},
		{`a"b`, `"a\"b"`},
		{`\`, `"\\"`},
		{`"`, `"\""`},
		{`\"`, `"\\\""`},
		{`a,b;c=d`, `"a,b;c=d"`},
		{" a\tb ", "\" a\tb \""},
		{"\x80\xff\u00e9", "\"\x80\xff\u00e9\""},
	} {
		if got, err := syntax.Quote(c.s); got != c.want || err != nil {
			t.Errorf("Quote(%q) = %q, %v; want %q", c.s, got, err, c.want)
		}
	}
}

func TestUnquote(t *testing.T) { // P1.1
	for _, c := range []struct{ s, want string }{
		{`""`, ``},
		{`"a"`, `a`},
		{`"a\bc"`, `abc`},
		{`"\""`, `"`},
		{`"\\"`, `\`},
		{`"\\\""`, `\"`},
		{"\"\\\t\\ \t\"", "\t \t"},
		{"\"\x80\\\xff\"", "\x80\xff"},
		{`"a,b;c"`, `a,b;c`},
	} {
		if got, err := syntax.Unquote(c.s); got != c.want || err != nil {
			t.Errorf("Unquote(%q) = %q, %v; want %q", c.s, got, err, c.want)
		}
	}
	for _, s := range []string{
		``, `"`, `a`, `"a`, `a"`, `"\"`, `"\\\"`, `"a"b"`, `"""`, `""""`, `"a" `, ` "a"`, `"a"b`, `a"b"`, `'a'`, `\"a\"`, `"a"\`,
	} {
		if got, err := syntax.Unquote(s); got != "" || err != api.ErrForm {
			t.Errorf("Unquote(%q) = %q, %v; want ErrForm", s, got, err)
		}
	}
}

func TestControlBytesAreRefused(t *testing.T) { // P1.1
	for _, c := range controls() {
		for _, s := range []string{c, "a" + c, c + "a", "a" + c + "b"} {
			if got, err := syntax.Quote(s); got != "" || err != api.ErrForm {
				t.Errorf("Quote(%q) = %q, %v", s, got, err)
			}
			if got, err := syntax.Unquote(`"` + s + `"`); got != "" || err != api.ErrForm {
				t.Errorf("Unquote of %q in quotes = %q, %v", s, got, err)
			}
			if got, err := syntax.List("x, " + s); len(got) != 0 || err != api.ErrForm {
				t.Errorf("List with %q = %q, %v", s, got, err)
			}
			if v, l, err := syntax.Split("x" + s + "; a=b"); v != "" || len(l) != 0 || err != api.ErrForm {
				t.Errorf("Split with %q = %q, %q, %v", s, v, l, err)
			}
			if v, l, err := syntax.Split(`x; a=b; c="` + s + `"`); v != "" || len(l) != 0 || err != api.ErrForm {
				t.Errorf("Split with the parameter %q = %q, %q, %v", s, v, l, err)
			}
			if got, err := syntax.Join("x", params{{Name: "a", Value: "b"}, {Name: "a", Value: s}}); got != "" || err != api.ErrForm {
				t.Errorf("Join with %q = %q, %v", s, got, err)
			}
		}
		if got, err := syntax.Unquote(`"\` + c + `"`); got != "" || err != api.ErrForm {
			t.Errorf("Unquote of an escaped %q = %q, %v", c, got, err)
		}
		if got, err := syntax.List(`"\` + c + `"`); len(got) != 0 || err != api.ErrForm {
			t.Errorf("List with an escaped %q = %q, %v", c, got, err)
		}
	}
}

func TestList(t *testing.T) { // P1.1
	for _, c := range []struct {
		s    string
		want []string
	}{
		{``, nil},
		{" \t ", nil},
		{`,`, nil},
		{` , ,	,`, nil},
		{`a`, []string{`a`}},
		{`a,b`, []string{`a`, `b`}},
		{",a,,b,", []string{`a`, `b`}},
		{"\ta \t,\t b c ", []string{`a`, `b c`}},
		{`a, "b,c" ,, d`, []string{`a`, `"b,c"`, `d`}},
		{`"a,\",b", c`, []string{`"a,\",b"`, `c`}},
		{`"\\",a`, []string{`"\\"`, `a`}},
		{`"\\\",a"`, []string{`"\\\",a"`}},
		{`""`, []string{`""`}},
		{`" a "`, []string{`" a "`}},
		{`a"b,c"d"e,f",g`, []string{`a"b,c"d"e,f"`, `g`}},
		{`a;b="c,d",e`, []string{`a;b="c,d"`, `e`}},
		{`a\,b`, []string{`a\`, `b`}},
		{`\"a,b"`, []string{`\"a,b"`}},
		{`a\`, []string{`a\`}},
		{"\xff,\u00e9", []string{"\xff", "\u00e9"}},
		{"a,a,A", []string{"a", "a", "A"}},
	} {
		if got, err := syntax.List(c.s); !slices.Equal(got, c.want) || err != nil {
			t.Errorf("List(%q) = %q, %v; want %q", c.s, got, err, c.want)
		}
	}
	for _, s := range []string{`"`, `a,"`, `a,"b`, `"a\"`, `"a\`, `"a\\\"`, `"a"",b`, `a,b,"c,d`, `\"a`} {
		if got, err := syntax.List(s); len(got) != 0 || err != api.ErrForm {
			t.Errorf("List(%q) = %q, %v; want ErrForm", s, got, err)
		}
	}
}

func TestSplit(t *testing.T) { // P1.1
	for _, c := range []struct {
		s, value string
		list     params
	}{
		{``, ``, nil},
		{`a`, `a`, nil},
		{" \ta b\t ", `a b`, nil},
		{`;`, ``, nil},
		{`a; ;;	;`, `a`, nil},
		{`;a=b`, ``, params{{Name: "a", Value: "b"}}},
		{`text/html; Charset=utf-8 ;q="a;b"`, `text/html`, params{{Name: "charset", Value: "utf-8"}, {Name: "q", Value: "a;b"}}},
		{`a;B=C;b=c`, `a`, params{{Name: "b", Value: "C"}, {Name: "b", Value: "c"}}},
		{`a;b=""`, `a`, params{{Name: "b", Value: ""}}},
		{`a;b="\"\\\c"`, `a`, params{{Name: "b", Value: `"\c`}}},
		{`a;b="=;,"`, `a`, params{{Name: "b", Value: "=;,"}}},
		{"a\t;\tb=c\t", `a`, params{{Name: "b", Value: "c"}}},
		{`"a;b";c=d`, `"a;b"`, params{{Name: "c", Value: "d"}}},
		{`x"a;b";c=d`, `x"a;b"`, params{{Name: "c", Value: "d"}}},
		{`a=b,c;d=e`, `a=b,c`, params{{Name: "d", Value: "e"}}},
		{`a\;b=c`, `a\`, params{{Name: "b", Value: "c"}}},
		{"\xff;a=\"\xff\"", "\xff", params{{Name: "a", Value: "\xff"}}},
	} {
		value, list, err := syntax.Split(c.s)
		if value != c.value || !slices.Equal(list, c.list) || err != nil {
			t.Errorf("Split(%q) = %q, %q, %v; want %q, %q", c.s, value, list, err, c.value, c.list)
		}
	}
	for _, s := range []string{
		`a; b`, `a; b =c`, `a; b= c`, `a; b = c`, `a;=`, `a;=b`, `a;b=`, `a;b=c=d`, `a;b=c d`, `a;b c=d`, `a;b="c"d`, `a;b="c" d`,
		`a;b=d"c"`, `a;"b"=c`, `a;b=c;d`, `a;b="c`, `a;b="\"`, `a"`, `"a;b=c`, `a;b=c,d`, `a;b=c/d`, "a;b=\xff", "a;\xff=b", `a;b=""""`,
		`a;b==c`, `a;/=c`, `a;b='c d'`, `a;[=1`,
	} {
		if value, list, err := syntax.Split(s); value != "" || len(list) != 0 || err != api.ErrForm {
			t.Errorf("Split(%q) = %q, %q, %v; want ErrForm", s, value, list, err)
		}
	}
}

func TestSplitLowersNamesOnly(t *testing.T) { // P1.1
	const upper = "!#$%&'*+-.^_`|~0189ABCDEFGHIJKLMNOPQRSTUVWXYZ"
	const lower = "!#$%&'*+-.^_`|~0189abcdefghijklmnopqrstuvwxyz"
	value, list, err := syntax.Split("ABC;" + upper + "=" + upper + ";" + lower + `="` + upper + `"`)
	want := params{{Name: lower, Value: upper}, {Name: lower, Value: upper}}
	if value != "ABC" || !slices.Equal(list, want) || err != nil {
		t.Errorf("%q, %q, %v", value, list, err)
	}
	text, err := syntax.Join("ABC", params{{Name: upper, Value: upper}})
	if text != "ABC; "+lower+"="+upper || err != nil {
		t.Errorf("%q, %v", text, err)
	}
}

func TestJoin(t *testing.T) { // P1.1
	for _, c := range []struct {
		value string
		list  params
		want  string
	}{
		{"", nil, ""},
		{"a", nil, "a"},
		{"a", params{}, "a"},
		{"", params{{Name: "a", Value: "b"}}, "; a=b"},
		{"a", params{{Name: "Q", Value: "x y"}, {Name: "b", Value: "1"}}, `a; q="x y"; b=1`},
		{"a", params{{Name: "b", Value: ""}}, `a; b=""`},
		{"a", params{{Name: "b", Value: `"\`}}, `a; b="\"\\"`},
		{"a", params{{Name: "b", Value: "C"}, {Name: "b", Value: "C"}}, `a; b=C; b=C`},
		{"a", params{{Name: "b", Value: "\t\xff"}}, "a; b=\"\t\xff\""},
		{" not; checked\r\n\"", params{{Name: "b", Value: "c"}}, " not; checked\r\n\"; b=c"},
		{"\x00", nil, "\x00"},
	} {
		if got, err := syntax.Join(c.value, c.list); got != c.want || err != nil {
			t.Errorf("Join(%q, %q) = %q, %v; want %q", c.value, c.list, got, err, c.want)
		}
	}
	for _, name := range []string{"", " ", "a b", "a=", `"a"`, "a;", "\xff", "\r"} {
		list := params{{Name: "ok", Value: "1"}, {Name: name, Value: "1"}}
		if got, err := syntax.Join("a", list); got != "" || err != api.ErrForm {
			t.Errorf("Join with the name %q = %q, %v; want ErrForm", name, got, err)
		}
	}
}

func TestNumber(t *testing.T) { // P1.1
	for _, c := range []struct {
		s    string
		want int
		err  error
	}{
		{"0", 0, nil},
		{"9", 9, nil},
		{"007", 7, nil},
		{"1234567890", 1234567890, nil},
		{"999999999999999", 999999999999999, nil},
		{"000000000000000", 0, nil},
		{"0000000000000000", 0, api.ErrLarge},
		{"0000000000000001", 0, api.ErrLarge},
		{"1234567890123456", 0, api.ErrLarge},
		{strings.Repeat("9", 1000), 0, api.ErrLarge},
		{"", 0, api.ErrForm},
		{"-1", 0, api.ErrForm},
		{"+1", 0, api.ErrForm},
		{" 1", 0, api.ErrForm},
		{"1 ", 0, api.ErrForm},
		{"1.0", 0, api.ErrForm},
		{"1e3", 0, api.ErrForm},
		{"0x1", 0, api.ErrForm},
		{"1_0", 0, api.ErrForm},
		{"1/", 0, api.ErrForm},
		{"1:", 0, api.ErrForm},
		{"\u0661", 0, api.ErrForm},
		{"123456789012345x", 0, api.ErrForm},
		{strings.Repeat("9", 1000) + "x", 0, api.ErrForm},
	} {
		if got, err := syntax.Number(c.s); got != c.want || err != c.err {
			t.Errorf("Number(%q) = %d, %v; want %d, %v", c.s, got, err, c.want, c.err)
		}
	}
	for c := range 256 {
		s := string([]byte{byte(c)})
		want, err := strconv.Atoi(s)
		if got, e := syntax.Number(s); got != want || (e == nil) != (err == nil) {
			t.Errorf("Number(%q) = %d, %v", s, got, e)
		}
	}
}

// compare checks every function against its other wording in reference_test.go.
func compare(t *testing.T, s string) {
	t.Helper()
	if got := syntax.Token(s); got != referenceToken(s) {
		t.Errorf("Token(%q) = %v", s, got)
	}
	text, ok := referenceUnquote(s)
	if got, err := syntax.Unquote(s); got != text || !agrees(err, ok) {
		t.Errorf("Unquote(%q) = %q, %v; want %q, %v", s, got, err, text, ok)
	}
	list, ok := referenceList(s)
	if got, err := syntax.List(s); !slices.Equal(got, list) || !agrees(err, ok) {
		t.Errorf("List(%q) = %q, %v; want %q, %v", s, got, err, list, ok)
	}
	value, pairs, ok := referenceSplit(s)
	got, ps, err := syntax.Split(s)
	if got != value || fmt.Sprintf("%q", ps) != fmt.Sprintf("%q", pairs) || !agrees(err, ok) {
		t.Errorf("Split(%q) = %q, %q, %v; want %q, %q, %v", s, got, ps, err, value, pairs, ok)
	}
	digits, small := referenceNumber(s)
	if n, err := syntax.Number(s); !agrees(err, digits && small) && !(err == api.ErrLarge && digits && !small) {
		t.Errorf("Number(%q) = %d, %v", s, n, err)
	}
}

func agrees(err error, ok bool) bool {
	if ok {
		return err == nil
	}
	return err == api.ErrForm
}

func TestAllShortStrings(t *testing.T) { // P1.1
	samples.Strings(6, letters("a\",;= \\"), func(s string) { compare(t, s) })
	samples.Strings(5, letters("aA\"\\;=\t\x7f"), func(s string) { compare(t, "v;a="+s) })
}

func TestRandomStrings(t *testing.T) { // P1.1
	random := rand.New(rand.NewSource(1))
	pieces := append(letters("\"\"\"\\\\,,;;== \tabAZ09/"), "\xff", "\u00e9", "\x00", `a="b"`, `;A="\"c"`)
	for range 20000 {
		var s strings.Builder
		for range random.Intn(24) {
			s.WriteString(pieces[random.Intn(len(pieces))])
		}
		compare(t, s.String())
	}
}

func FuzzFunctions(f *testing.F) { // P1.1
	for _, s := range []string{"", `a, "b,c" ,, d`, `text/html; Charset=utf-8 ;q="a;b"`, "007", "\"a\\bc\"", "\xff\x00"} {
		f.Add(s)
	}
	f.Fuzz(func(t *testing.T, s string) {
		compare(t, s)
		quoteAndBack(t, s)
		listAgain(t, s)
		splitAgain(t, s)
	})
}

// quoteAndBack is the first half of P1.2.
func quoteAndBack(t *testing.T, s string) {
	t.Helper()
	quoted, err := syntax.Quote(s)
	if refused := controlPattern.MatchString(s); refused != (err != nil) || refused && (quoted != "" || err != api.ErrForm) {
		t.Errorf("Quote(%q) = %q, %v", s, quoted, err)
	}
	if err != nil {
		return
	}
	if escapes := strings.Count(s, `"`) + strings.Count(s, `\`); len(quoted) != len(s)+escapes+2 {
		t.Errorf("Quote(%q) = %q has a \\ too many or too few", s, quoted)
	}
	if back, err := syntax.Unquote(quoted); back != s || err != nil {
		t.Errorf("Unquote(Quote(%q)) = %q, %v", s, back, err)
	}
}

// listAgain checks that the elements of a list are elements by themselves, and P1.3 for them.
func listAgain(t *testing.T, s string) {
	t.Helper()
	list, err := syntax.List(s)
	if err != nil {
		return
	}
	for _, e := range list {
		if own, err := syntax.List(e); !slices.Equal(own, []string{e}) || err != nil {
			t.Errorf("List(%q) has the element %q, of which List makes %q, %v", s, e, own, err)
		}
	}
	for _, comma := range []string{",", " , ", ",\t", " ,,", "\t, \t,"} {
		joined := " " + strings.Join(list, comma) + "\t"
		if again, err := syntax.List(joined); !slices.Equal(again, list) || err != nil {
			t.Errorf("List(%q) = %q, %v; want %q", joined, again, err, list)
		}
	}
}

// splitAgain is the second half of P1.2, for what Split returned.
func splitAgain(t *testing.T, s string) {
	t.Helper()
	value, list, err := syntax.Split(s)
	if err != nil {
		return
	}
	text, err := syntax.Join(value, list)
	if err != nil {
		t.Errorf("Join(%q, %q): %v", value, list, err)
		return
	}
	again, more, err := syntax.Split(text)
	if again != value || !slices.Equal(more, list) || err != nil {
		t.Errorf("Split(%q) = %q, %q, %v; want %q, %q", text, again, more, err, value, list)
	}
}

func TestUnquoteOfQuote(t *testing.T) { // P1.2
	samples.Strings(6, letters("\"\\a \t\x7f"), func(s string) { quoteAndBack(t, s) })
	for c := range 256 {
		quoteAndBack(t, string([]byte{byte(c)}))
		quoteAndBack(t, string([]byte{'\\', byte(c), '"'}))
	}
}

func TestSplitOfJoin(t *testing.T) { // P1.2
	values := []string{"", "a", "A/b", "a b", `"a;b"`, `x"a;\";b"y`, `\`, "a,b=c", "\xff"}
	var texts []string
	samples.Strings(3, letters("aA\"\\; \t"), func(s string) { texts = append(texts, s) })
	for _, value := range values {
		if own, none, err := syntax.Split(value); own != value || len(none) != 0 || err != nil {
			t.Fatalf("%q is no value: %q, %q, %v", value, own, none, err)
		}
		for i, text := range texts {
			list := params{{Name: "Aa", Value: text}, {Name: "!", Value: texts[len(texts)-1-i]}, {Name: "Aa", Value: text}}
			want := slices.Clone(list)
			want[0].Name, want[2].Name = "aa", "aa"
			joined, err := syntax.Join(value, list)
			if err != nil {
				t.Fatalf("Join(%q, %q): %v", value, list, err)
			}
			got, more, err := syntax.Split(joined)
			if got != value || !slices.Equal(more, want) || err != nil {
				t.Errorf("Split(%q) = %q, %q, %v; want %q, %q", joined, got, more, err, value, want)
			}
		}
	}
	samples.Strings(6, letters("a\";=\\ "), func(s string) { splitAgain(t, s) })
}

func TestListOfElements(t *testing.T) { // P1.3
	var elements []string
	samples.Strings(4, letters("a\",\\ ;"), func(s string) {
		if own, err := syntax.List(s); err == nil && slices.Equal(own, []string{s}) {
			elements = append(elements, s)
		}
	})
	if !slices.Contains(elements, `","`) || !slices.Contains(elements, `a\ a`) || slices.Contains(elements, "a,a") || slices.Contains(elements, "a ") {
		t.Fatalf("not the elements: %q", elements)
	}
	random := rand.New(rand.NewSource(2))
	for range 20000 {
		var list []string
		var s strings.Builder
		for range random.Intn(6) {
			e := elements[random.Intn(len(elements))]
			if len(list) > 0 {
				s.WriteString(someBlanks(random) + ",")
			}
			s.WriteString(someBlanks(random) + e)
			list = append(list, e)
		}
		if got, err := syntax.List(s.String()); !slices.Equal(got, list) || err != nil {
			t.Errorf("List(%q) = %q, %v; want %q", s.String(), got, err, list)
		}
	}
	samples.Strings(6, letters("a\",\\ \t"), func(s string) { listAgain(t, s) })
}

func someBlanks(random *rand.Rand) string {
	return []string{"", " ", "\t", " \t "}[random.Intn(4)]
}

func TestArgumentsAndResultsAreSeparate(t *testing.T) { // P1 with rule 3
	list := params{{Name: "Q", Value: "x y"}, {Name: "B", Value: "C"}}
	kept := slices.Clone(list)
	if _, err := syntax.Join("a", list); err != nil || !slices.Equal(list, kept) {
		t.Errorf("Join changed its argument to %q, %v", list, err)
	}
	first, _ := syntax.List("a,b")
	second, _ := syntax.List("a,b")
	first[0] = "changed"
	if second[0] != "a" {
		t.Error("two results of List share memory")
	}
	_, one, _ := syntax.Split("a;b=c")
	_, two, _ := syntax.Split("a;b=c")
	one[0].Value = "changed"
	if two[0].Value != "c" {
		t.Error("two results of Split share memory")
	}
}

func TestLongInputs(t *testing.T) { // P1
	const n = 1 << 20
	if list, err := syntax.List(strings.Repeat("a,", n)); len(list) != n || err != nil {
		t.Errorf("List: %d, %v", len(list), err)
	}
	if list, err := syntax.List(strings.Repeat(",", n)); len(list) != 0 || err != nil {
		t.Errorf("List: %d, %v", len(list), err)
	}
	if _, list, err := syntax.Split(strings.Repeat(`;a="b"`, n)); len(list) != n || err != nil {
		t.Errorf("Split: %d, %v", len(list), err)
	}
	if _, list, err := syntax.Split(strings.Repeat(`;a=b`, n) + `;"`); len(list) != 0 || err != api.ErrForm {
		t.Errorf("Split: %d, %v", len(list), err)
	}
	quoted, err := syntax.Quote(strings.Repeat(`"`, n))
	if back, e := syntax.Unquote(quoted); len(quoted) != 2*n+2 || len(back) != n || err != nil || e != nil {
		t.Errorf("Quote: %d, %d, %v, %v", len(quoted), len(back), err, e)
	}
}
