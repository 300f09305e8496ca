package validator_test

import (
	"math"
	"math/rand"
	"slices"
	"strings"
	"testing"

	"quayside/api"
	"quayside/field"
	"quayside/samples"
	"quayside/validator"
)

// of returns the fields with the names and values given in turn, and some one
// of the texts.
var (
	of   = samples.Fields
	some = samples.Some
)

// A second, its date, and the dates of the seconds around it.
const (
	second = 784111777
	date   = samples.Date
	sooner = "Sun, 06 Nov 1994 08:49:36 GMT"
	later  = "Sun, 06 Nov 1994 08:49:38 GMT"
)

// The dates of the first and of the last second that there are.
const (
	first = samples.FirstDate
	last  = samples.LastDate
	end   = 253402300799
)

func repeat(s string, n int) string {
	return strings.Repeat(s, n)
}

func strong(text string) validator.Tag {
	return validator.Tag{Text: text}
}

func weak(text string) validator.Tag {
	return validator.Tag{Weak: true, Text: text}
}

// list returns the tags. (A literal would be longer.)
func list(tags ...validator.Tag) []validator.Tag {
	return tags
}

// tagged returns the state of a resource that has the tag alone.
func tagged(tag validator.Tag) validator.State {
	return validator.State{Exists: true, HasTag: true, Tag: tag}
}

// dated returns the state of a resource that has the modification time alone.
func dated(modified int) validator.State {
	return validator.State{Exists: true, HasModified: true, Modified: modified}
}

// full returns the state of a resource that has both.
func full(tag validator.Tag, modified int) validator.State {
	return validator.State{Exists: true, HasTag: true, HasModified: true, Tag: tag, Modified: modified}
}

// states are of resources of all kinds. What a state says that there is not
// may have a value all the same.
func states() []validator.State {
	missing := full(strong("a"), second)
	missing.Exists = false
	untagged := full(strong("a"), second)
	untagged.HasTag = false
	undated := full(strong("a"), second)
	undated.HasModified = false
	return []validator.State{
		{}, {Exists: true}, missing, untagged, undated,
		tagged(strong("a")), tagged(weak("a")), tagged(strong("")), tagged(weak("")), tagged(strong("a,b")), tagged(strong("W/a")), tagged(strong("*")), tagged(strong("a b")),
		dated(second), dated(second - 1), dated(second + 1), dated(0), dated(-1), dated(end), dated(math.MaxInt), dated(math.MinInt),
		full(strong("a"), second), full(weak("a"), second), full(strong("b"), second+1),
	}
}

// methods are those that matter, and some that look like them.
var methods = []string{"GET", "HEAD", "PUT", "POST", "", "get", "GET "}

// compareRead checks both functions that read a string against
// reference_test.go, and P10.2 for what they accept.
func compareRead(t *testing.T, s string) {
	t.Helper()
	tag, err := validator.ReadTag(s)
	if want, e := referenceReadTag(s); tag != want || err != e {
		t.Errorf("ReadTag(%.200q) = %v, %v; want %v, %v", s, tag, err, want, e)
	}
	if again, e := validator.WriteTag(tag); err == nil && (again != s || e != nil) {
		t.Errorf("WriteTag(%v) = %q, %v; want %q", tag, again, e, s)
	}
	tags, all, err := validator.ReadTags(s)
	if want, a, e := referenceReadTags(s); !slices.Equal(tags, want) || all != a || err != e {
		t.Errorf("ReadTags(%.200q) = %v, %v, %v; want %v, %v, %v", s, tags, all, err, want, a, e)
	}
	for _, tag := range tags {
		keepTag(t, tag)
	}
}

// keepTag checks P10.2 for a tag that was read.
func keepTag(t *testing.T, tag validator.Tag) {
	t.Helper()
	s, err := validator.WriteTag(tag)
	again, e := validator.ReadTag(s)
	if again != tag || err != nil || e != nil {
		t.Errorf("ReadTag(%q) = %v, %v; WriteTag of %v returned %v", s, again, e, tag, err)
	}
}

// compareWrite checks WriteTag, and P10.2 for what it accepts.
func compareWrite(t *testing.T, text string) {
	t.Helper()
	for _, tag := range list(strong(text), weak(text)) {
		s, err := validator.WriteTag(tag)
		if want, e := referenceWriteTag(tag); s != want || err != e {
			t.Errorf("WriteTag(%v) = %q, %v; want %q, %v", tag, s, err, want, e)
		}
		if err == nil {
			keepTag(t, tag)
		}
	}
}

// comparePair checks the comparisons of two tags, and P10.2 for them.
func comparePair(t *testing.T, a, b validator.Tag) {
	t.Helper()
	isStrong, isWeak := validator.Strong(a, b), validator.Weak(a, b)
	if want := a == b && !a.Weak; isStrong != want {
		t.Errorf("Strong(%v, %v) = %v", a, b, isStrong)
	}
	if want := strong(a.Text) == strong(b.Text); isWeak != want {
		t.Errorf("Weak(%v, %v) = %v", a, b, isWeak)
	}
	if isStrong && !isWeak {
		t.Errorf("%v and %v are the same strongly, but not weakly", a, b)
	}
	if validator.Strong(b, a) != isStrong || validator.Weak(b, a) != isWeak {
		t.Errorf("the order of %v and %v matters", a, b)
	}
}

// compareRequest checks both functions of a request, and P10.3 for it.
func compareRequest(t *testing.T, method string, f field.Fields, s validator.State) {
	t.Helper()
	kept := slices.Clone(f)
	got := validator.Evaluate(method, f, s)
	if want := referenceEvaluate(method, f, s); got != want {
		t.Errorf("Evaluate(%q, %q, %v) = %d; want %d", method, f, s, got, want)
	}
	if got == validator.NotModified && method != "GET" && method != "HEAD" {
		t.Errorf("Evaluate(%q, %q, %v) is NotModified", method, f, s)
	}
	keepPrecedence(t, method, f, s, got, "if-match", "if-unmodified-since")
	keepPrecedence(t, method, f, s, got, "if-none-match", "if-modified-since")
	if use, want := validator.UseRange(method, f, s), referenceUseRange(method, f, s); use != want {
		t.Errorf("UseRange(%q, %q, %v) = %v", method, f, s, use)
	}
	if !slices.Equal(f, kept) {
		t.Errorf("the fields %q were changed to %q", kept, f)
	}
}

// compareRequests checks requests with the fields, of all methods and for
// resources of all kinds and the given one.
func compareRequests(t *testing.T, f field.Fields, given validator.State) {
	t.Helper()
	for _, s := range append(states(), given) {
		for _, method := range methods {
			compareRequest(t, method, f, s)
		}
	}
}

// keepPrecedence checks P10.3: where there is a field of the first name, those
// of the second one change nothing.
func keepPrecedence(t *testing.T, method string, f field.Fields, s validator.State, got int, name, other string) {
	t.Helper()
	if _, found := field.Get(f, name); !found {
		return
	}
	for _, g := range []field.Fields{field.Remove(f, other), field.Set(f, other, first), field.Set(f, other, last)} {
		if again := validator.Evaluate(method, g, s); again != got {
			t.Errorf("Evaluate(%q, %q, %v) = %d; with the fields %q %d", method, f, s, got, g, again)
		}
	}
}

func TestReadTagAndWriteTag(t *testing.T) { // P10.1, P10.2
	long := repeat("a\\,'", 1000)
	for _, c := range []struct {
		s    string
		want validator.Tag
	}{
		{`"a"`, strong("a")},
		{`W/"a"`, weak("a")},
		{`""`, strong("")},
		{`W/""`, weak("")},
		{`"!"`, strong("!")},
		{`"#$%&'()*+,-./09:;<=>?@AZ[\]^_` + "`" + `az{|}~"`, strong("#$%&'()*+,-./09:;<=>?@AZ[\\]^_`az{|}~")},
		{`"W/"`, strong("W/")},
		{`W/"W/"`, weak("W/")},
		{`"*"`, strong("*")},
		{`"a,b"`, strong("a,b")},
		{`"\"`, strong(`\`)},
		{`"a\"`, strong(`a\`)},
		{`"\\"`, strong(`\\`)},
		{`W/"\a"`, weak(`\a`)},
		{"\"\x80\xff\"", strong("\x80\xff")},
		{"W/\"\u00e9\u00a0\"", weak("\u00e9\u00a0")},
		{`"` + long + `"`, strong(long)},
		{`W/"` + long + `"`, weak(long)},
	} {
		if got, err := validator.ReadTag(c.s); got != c.want || err != nil {
			t.Errorf("ReadTag(%.200q) = %.200v, %v; want %.200v", c.s, got, err, c.want)
		}
		if s, err := validator.WriteTag(c.want); s != c.s || err != nil {
			t.Errorf("WriteTag(%.200v) = %.200q, %v; want %.200q", c.want, s, err, c.s)
		}
		compareRead(t, c.s)
		compareWrite(t, c.want.Text)
	}
}

func TestReadTagRefuses(t *testing.T) { // P10.1
	for _, s := range []string{
		"", "a", `"`, `a"`, `"a`, `"""`, `""""`, `"a"b"`, `"a""b"`, `"a"b`, `b"a"`, `'a'`, "*", `*"a"`,
		"W", "W/", "W/a", `W/"`, `W"a"`, `/"a"`, `W/W/"a"`, `"a"W/`, `w/"a"`, `W\"a"`, `W /"a"`, `W/ "a"`, `W/"a`, `W/"a" `,
		` "a"`, `"a" `, "\t\"a\"", "\"a\"\t", `"a b"`, `" "`, "\"a\t\"", "\"\x00\"", "\"\x1f\"", "\"a\x7f\"", "\"a\r\n\"", "\"a\"\n",
		`"a\"b"`, `"\""`, `"a",`, `,"a"`, `"a","b"`, `W/"a", W/"b"`, "\u201ca\u201d",
	} {
		if tag, err := validator.ReadTag(s); tag != (validator.Tag{}) || err != api.ErrForm {
			t.Errorf("ReadTag(%q) = %v, %v; want ErrForm", s, tag, err)
		}
		compareRead(t, s)
	}
}

func TestWriteTagRefuses(t *testing.T) { // P10.1
	for _, text := range []string{`"`, `a"`, `"a"`, `a"b`, `\"`, " ", "a b", " a", "a ", "\t", "a\t", "\x00", "a\x00b", "\x1f", "\x7f", "\u00e9\x7f", "a\r\nb", "\n", repeat("a", 1000) + " "} {
		for _, tag := range list(strong(text), weak(text)) {
			if s, err := validator.WriteTag(tag); s != "" || err != api.ErrForm {
				t.Errorf("WriteTag(%v) = %q, %v; want ErrForm", tag, s, err)
			}
		}
		compareWrite(t, text)
	}
}

func TestEachByteOfAText(t *testing.T) { // P10.1, P10.2
	for c := range 256 {
		for _, text := range []string{string([]byte{byte(c)}), string([]byte{'a', byte(c)}), string([]byte{byte(c), 'a'}), string([]byte{0xff, byte(c), 0x80})} {
			permitted := c == 33 || 35 <= c && c <= 126 || 128 <= c
			if tag, err := validator.ReadTag(`"` + text + `"`); permitted != (err == nil) || permitted != (tag == strong(text)) {
				t.Errorf("ReadTag of %q = %v, %v", text, tag, err)
			}
			if s, err := validator.WriteTag(weak(text)); permitted != (err == nil) || permitted != (s == `W/"`+text+`"`) {
				t.Errorf("WriteTag of %q = %q, %v", text, s, err)
			}
			compareRead(t, text)
			compareRead(t, `W/"`+text+`"`)
			compareRead(t, `"`+text+`",`+text+`"`+text+`"`)
			compareWrite(t, text)
		}
	}
}

func TestReadTags(t *testing.T) { // P10.1
	for _, c := range []struct {
		s    string
		want []validator.Tag
	}{
		{`"a"`, list(strong("a"))},
		{`W/"a"`, list(weak("a"))},
		{`""`, list(strong(""))},
		{`"a,b" , W/""`, list(strong("a,b"), weak(""))},
		{`"a","b","c"`, list(strong("a"), strong("b"), strong("c"))},
		{`"b", "a", "b"`, list(strong("b"), strong("a"), strong("b"))},
		{`"","",W/""`, list(strong(""), strong(""), weak(""))},
		{" \t\"a\" \t", list(strong("a"))},
		{" \t\"a\" \t,\t W/\"b\"\t ", list(strong("a"), weak("b"))},
		{`,"a"`, list(strong("a"))},
		{`"a",`, list(strong("a"))},
		{", \t,,\"a\" ,\t , ,W/\"b\",,\t", list(strong("a"), weak("b"))},
		{`"*"`, list(strong("*"))},
		{`"*", "*"`, list(strong("*"), strong("*"))},
		{`",", ",W/", "W/"`, list(strong(","), strong(",W/"), strong("W/"))},
		// A \ belongs to the text, and does not hide the " after it.
		{`"a\"`, list(strong(`a\`))},
		{`"a\", "b"`, list(strong(`a\`), strong("b"))},
		{`"\", "\"`, list(strong(`\`), strong(`\`))},
		{`"\\", W/"\"`, list(strong(`\\`), weak(`\`))},
		{"\"\xff\", \"\u00a0\"", list(strong("\xff"), strong("\u00a0"))},
		{repeat(`"a" , `, 1000), slices.Repeat(list(strong("a")), 1000)},
		{repeat(",", 1000) + `W/"a"` + repeat(" ,", 1000), list(weak("a"))},
	} {
		if got, all, err := validator.ReadTags(c.s); !slices.Equal(got, c.want) || all || err != nil {
			t.Errorf("ReadTags(%.200q) = %.200v, %v, %v; want %.200v", c.s, got, all, err, c.want)
		}
		compareRead(t, c.s)
	}
	for _, s := range []string{"*", " *", "*\t", " \t *\t ", repeat(" ", 1000) + "*"} {
		if got, all, err := validator.ReadTags(s); len(got) != 0 || !all || err != nil {
			t.Errorf("ReadTags(%q) = %v, %v, %v; want all tags", s, got, all, err)
		}
		compareRead(t, s)
	}
}

// malformed are no lists of tags.
var malformed = []string{
	"", " ", "\t", ",", " , ,\t,", "a", `a, "b"`, `"b", a`, `"a" "b"`, `"a""b"`, `"a" W/"b"`, `"a"W/"b"`, `"a";"b"`, `"a", 'b'`,
	"**", "* *", "*,", ",*", "*,*", "*, *", `*, "a"`, `"a", *`, `*"a"`, `"a"*`, "W/*", "\v*", "*\n", "\u00a0*",
	`"`, `"a`, `a"`, `"a", "`, `"a", "b`, `"a, "b"`, `"a", b"`, `"a\\", \"b"`, `"a\", "b\""`, `"a"b"`,
	`W/`, `W/,"a"`, `"a", W/`, `W/ "a"`, `W /"a"`, `w/"a"`, `"a", w/"b"`, `W/W/"a"`,
	`"a b"`, `"a", "b c"`, "\"a\", \"\t\"", `" "`, "\"a\"\x00", "\x00\"a\"", "\"a\", \"b\x7f\"", "\"a\"\r\n", "\"a\",\n\"b\"", "\"a\"\u00a0", "\"a\"\v,\"b\"",
}

func TestReadTagsRefuses(t *testing.T) { // P10.1
	for _, s := range malformed {
		if got, all, err := validator.ReadTags(s); len(got) != 0 || all || err != api.ErrForm {
			t.Errorf("ReadTags(%q) = %v, %v, %v; want ErrForm", s, got, all, err)
		}
		compareRead(t, s)
	}
}

func TestShortTexts(t *testing.T) { // P10.1, P10.2
	compare := func(s string) {
		compareRead(t, s)
		compareWrite(t, s)
	}
	samples.Strings(5, []string{`"`, "W", "/", ",", " ", "\t", "*", "a", `\`, "\xff", "\n"}, compare)
	samples.Strings(7, []string{`"a"`, `W/"`, `"`, ",", " ", `\`}, compare)
}

func TestEachByteAtEachPlace(t *testing.T) { // P10.1
	for _, s := range []string{`"a"`, `W/"a"`, `W/""`, `"a\"`, " *\t", `"a,b" , W/""`, `, "a",,W/"\"`} {
		samples.Edits(s, func(s string) { compareRead(t, s) })
	}
}

func TestStrongAndWeak(t *testing.T) { // P10.1, P10.2
	for _, c := range []struct {
		a, b             validator.Tag
		isStrong, isWeak bool
	}{
		{strong("a"), strong("a"), true, true},
		{strong("a"), weak("a"), false, true},
		{weak("a"), strong("a"), false, true},
		{weak("a"), weak("a"), false, true},
		{strong("a"), strong("b"), false, false},
		{strong("a"), weak("b"), false, false},
		{weak("a"), weak("b"), false, false},
		{strong("a"), strong("A"), false, false},
		{strong("a"), strong("aa"), false, false},
		{strong("a"), strong(""), false, false},
		{strong(""), strong(""), true, true},
		{strong(""), weak(""), false, true},
		{strong("W/a"), weak("a"), false, false},
		{strong(`\a`), strong("a"), false, false},
		{strong("\xff"), strong("\xff"), true, true},
		{strong("\xff"), strong("\ufffd"), false, false},
		// The bytes of a text do not matter here.
		{strong(`" "`), strong(`" "`), true, true},
		{validator.Tag{}, validator.Tag{}, true, true},
	} {
		if got := validator.Strong(c.a, c.b); got != c.isStrong {
			t.Errorf("Strong(%v, %v) = %v", c.a, c.b, got)
		}
		if got := validator.Weak(c.a, c.b); got != c.isWeak {
			t.Errorf("Weak(%v, %v) = %v", c.a, c.b, got)
		}
		comparePair(t, c.a, c.b)
	}
}

func TestPairsOfShortTags(t *testing.T) { // P10.1, P10.2
	var tags []validator.Tag
	samples.Strings(3, []string{"a", "A", "\xff", `"`}, func(s string) {
		tags = append(tags, strong(s), weak(s))
	})
	for _, a := range tags {
		for _, b := range tags {
			comparePair(t, a, b)
		}
	}
}

func TestEvaluate(t *testing.T) { // P10.1, P10.3
	a := full(strong("a"), second)
	for _, c := range []struct {
		method string
		f      field.Fields
		s      validator.State
		want   int
	}{
		{"GET", nil, a, validator.Proceed},
		{"PUT", nil, validator.State{}, validator.Proceed},
		{"GET", of("etag", `"a"`, "match", "*", "range", "bytes=0-"), a, validator.Proceed},
		// Step 1.
		{"GET", of("if-match", "*"), a, validator.Proceed},
		{"GET", of("if-match", " *\t"), a, validator.Proceed},
		{"PUT", of("if-match", "*"), validator.State{Exists: true}, validator.Proceed},
		{"GET", of("if-match", "*"), validator.State{HasTag: true, Tag: strong("*")}, validator.Failed},
		{"GET", of("if-match", `"a"`), a, validator.Proceed},
		{"PUT", of("if-match", `"b", "a"`), a, validator.Proceed},
		{"GET", of("if-match", `W/"a"`), a, validator.Failed},
		{"GET", of("if-match", `W/"a", "a"`), a, validator.Proceed},
		{"GET", of("if-match", `"a"`), tagged(weak("a")), validator.Failed},
		{"GET", of("if-match", `W/"a"`), tagged(weak("a")), validator.Failed},
		{"GET", of("if-match", `"b"`), a, validator.Failed},
		{"GET", of("if-match", ""), a, validator.Failed},
		{"GET", of("if-match", "a"), a, validator.Failed},
		{"GET", of("if-match", `"a", b`), a, validator.Failed},
		{"GET", of("if-match", `*, "a"`), a, validator.Failed},
		{"GET", of("if-match", "*", "if-match", "*"), a, validator.Failed},
		{"GET", of("If-Match", `"b"`, "IF-MATCH", `"a"`), a, validator.Proceed},
		{"GET", of("if-match", `"a`, "if-match", `b"`), tagged(strong("a, b")), validator.Failed},
		{"GET", of("if-match", `""`), validator.State{Exists: true}, validator.Failed},
		{"GET", of("if-match", `"a"`), validator.State{Exists: true, Tag: strong("a")}, validator.Failed},
		{"GET", of("if-match", `"a"`), validator.State{HasTag: true, Tag: strong("a")}, validator.Failed},
		{"GET", of("if-match", `"*"`), a, validator.Failed},
		{"GET", of("\u0130f-match", `"b"`), a, validator.Proceed},
		// Step 2.
		{"PUT", of("if-unmodified-since", date), a, validator.Proceed},
		{"PUT", of("if-unmodified-since", later), a, validator.Proceed},
		{"PUT", of("if-unmodified-since", sooner), a, validator.Failed},
		{"GET", of("If-Unmodified-Since", sooner), a, validator.Failed},
		{"PUT", of("if-unmodified-since", sooner), tagged(strong("a")), validator.Proceed},
		{"PUT", of("if-unmodified-since", sooner), validator.State{Exists: true, Modified: second}, validator.Proceed},
		{"PUT", of("if-unmodified-since", sooner), validator.State{HasModified: true, Modified: second}, validator.Proceed},
		{"PUT", of("if-unmodified-since", first), dated(0), validator.Proceed},
		{"PUT", of("if-unmodified-since", first), dated(1), validator.Failed},
		{"PUT", of("if-unmodified-since", last), dated(end + 1), validator.Failed},
		{"PUT", of("if-unmodified-since", first), dated(math.MinInt), validator.Proceed},
		{"PUT", of("if-unmodified-since", "x"), a, validator.Proceed},
		{"PUT", of("if-unmodified-since", ""), a, validator.Proceed},
		{"PUT", of("if-unmodified-since", " "+sooner), a, validator.Proceed},
		{"PUT", of("if-unmodified-since", sooner, "if-unmodified-since", sooner), a, validator.Proceed},
		{"PUT", of("if-match", `"a"`, "if-unmodified-since", sooner), a, validator.Proceed},
		{"PUT", of("if-match", `"b"`, "if-unmodified-since", date), a, validator.Failed},
		// Step 3.
		{"GET", of("if-none-match", "*"), a, validator.NotModified},
		{"HEAD", of("if-none-match", "\t* "), a, validator.NotModified},
		{"PUT", of("if-none-match", "*"), a, validator.Failed},
		{"PUT", of("if-none-match", "*"), validator.State{HasTag: true}, validator.Proceed},
		{"GET", of("if-none-match", `"a"`), a, validator.NotModified},
		{"GET", of("if-none-match", `W/"a"`), a, validator.NotModified},
		{"HEAD", of("if-none-match", `"b", W/"a"`), tagged(weak("a")), validator.NotModified},
		{"GET", of("if-none-match", `"a"`), tagged(weak("a")), validator.NotModified},
		{"PUT", of("if-none-match", `W/"a"`), a, validator.Failed},
		{"", of("if-none-match", `"a"`), a, validator.Failed},
		{"get", of("if-none-match", `"a"`), a, validator.Failed},
		{"GET", of("if-none-match", `"b"`), a, validator.Proceed},
		{"GET", of("if-none-match", "a"), a, validator.Proceed},
		{"GET", of("if-none-match", "*, *"), a, validator.Proceed},
		{"GET", of("if-none-match", `"a", b`), a, validator.Proceed},
		{"GET", of("if-none-match", `""`), validator.State{Exists: true}, validator.Proceed},
		{"GET", of("if-none-match", `"a"`), validator.State{HasTag: true, Tag: strong("a")}, validator.Proceed},
		{"GET", of("If-None-Match", `"b"`, "if-none-match", `"a"`), a, validator.NotModified},
		{"GET", of("if-match", `"b"`, "if-none-match", `"a"`), a, validator.Failed},
		{"GET", of("if-match", `"a"`, "if-none-match", `"a"`), a, validator.NotModified},
		{"GET", of("if-unmodified-since", sooner, "if-none-match", `"a"`), a, validator.Failed},
		{"GET", of("if-unmodified-since", date, "if-none-match", `"a"`), a, validator.NotModified},
		// Step 4.
		{"GET", of("if-modified-since", date), a, validator.NotModified},
		{"HEAD", of("If-Modified-Since", later), a, validator.NotModified},
		{"GET", of("if-modified-since", sooner), a, validator.Proceed},
		{"PUT", of("if-modified-since", date), a, validator.Proceed},
		{"head", of("if-modified-since", date), a, validator.Proceed},
		{"GET", of("if-modified-since", last), tagged(strong("a")), validator.Proceed},
		{"GET", of("if-modified-since", last), validator.State{Exists: true, Modified: second}, validator.Proceed},
		{"GET", of("if-modified-since", last), validator.State{HasModified: true, Modified: second}, validator.Proceed},
		{"GET", of("if-modified-since", first), dated(0), validator.NotModified},
		{"GET", of("if-modified-since", first), dated(1), validator.Proceed},
		{"GET", of("if-modified-since", last), dated(math.MaxInt), validator.Proceed},
		{"GET", of("if-modified-since", ""), dated(0), validator.Proceed},
		{"GET", of("if-modified-since", ""), dated(-1), validator.Proceed},
		{"GET", of("if-modified-since", "x"), a, validator.Proceed},
		{"GET", of("if-modified-since", later+" "), a, validator.Proceed},
		{"GET", of("if-modified-since", later, "if-modified-since", later), a, validator.Proceed},
		{"GET", of("if-modified-\u017fince", later), a, validator.Proceed},
		{"GET", of("if-none-match", `"b"`, "if-modified-since", date), a, validator.Proceed},
		{"GET", of("if-none-match", "x", "if-modified-since", date), a, validator.Proceed},
		{"GET", of("if-none-match", "", "if-modified-since", date), a, validator.Proceed},
		{"GET", of("if-none-match", `"a"`, "if-modified-since", sooner), a, validator.NotModified},
		{"GET", of("if-match", "*", "if-modified-since", date), a, validator.NotModified},
		{"GET", of("if-unmodified-since", date, "if-modified-since", date), a, validator.NotModified},
		{"GET", of("if-unmodified-since", sooner, "if-modified-since", date), a, validator.Failed},
		// No range matters here.
		{"GET", of("if-range", `"b"`, "range", "bytes=0-"), a, validator.Proceed},
	} {
		if got := validator.Evaluate(c.method, c.f, c.s); got != c.want {
			t.Errorf("Evaluate(%q, %q, %v) = %d; want %d", c.method, c.f, c.s, got, c.want)
		}
		compareRequests(t, c.f, c.s)
	}
}

func TestResultsOfEvaluate(t *testing.T) { // P10.1
	if validator.Proceed != 1 || validator.NotModified != 2 || validator.Failed != 3 {
		t.Errorf("the constants are %d, %d and %d", validator.Proceed, validator.NotModified, validator.Failed)
	}
}

func TestUseRange(t *testing.T) { // P10.1
	a := full(strong("a"), second)
	for _, c := range []struct {
		method string
		f      field.Fields
		s      validator.State
		want   bool
	}{
		{"GET", nil, a, true},
		{"GET", nil, validator.State{}, true},
		{"GET", of("range", "bytes=0-", "if-match", `"b"`), a, true},
		{"HEAD", nil, a, false},
		{"PUT", nil, a, false},
		{"get", nil, a, false},
		{"", nil, a, false},
		{"HEAD", of("if-range", `"a"`), a, false},
		{"PUT", of("if-range", date), a, false},
		{"GET", of("if-range", `"a"`), a, true},
		{"GET", of("If-Range", `"a"`), a, true},
		{"GET", of("if-range", `W/"a"`), a, false},
		{"GET", of("if-range", `"a"`), tagged(weak("a")), false},
		{"GET", of("if-range", `W/"a"`), tagged(weak("a")), false},
		{"GET", of("if-range", `"b"`), a, false},
		{"GET", of("if-range", `""`), tagged(strong("")), true},
		{"GET", of("if-range", `""`), validator.State{Exists: true}, false},
		{"GET", of("if-range", `"a"`), validator.State{Exists: true, Tag: strong("a")}, false},
		{"GET", of("if-range", `"a"`), validator.State{HasTag: true, Tag: strong("a")}, false},
		{"GET", of("if-range", `"a", "a"`), a, false},
		{"GET", of("if-range", `"a"`, "if-range", `"a"`), a, false},
		{"GET", of("if-range", ` "a"`), a, false},
		{"GET", of("if-range", `"a"`+"\t"), a, false},
		{"GET", of("if-range", "*"), a, false},
		{"GET", of("if-range", `"*"`), a, false},
		{"GET", of("if-range", "a"), a, false},
		{"GET", of("if-range", ""), a, false},
		{"GET", of("if-range", ""), full(strong(""), 0), false},
		{"GET", of("if-range", date), a, true},
		{"GET", of("if-range", date), dated(second), true},
		{"GET", of("if-range", sooner), a, false},
		{"GET", of("if-range", later), a, false},
		{"GET", of("if-range", date), tagged(strong("a")), false},
		{"GET", of("if-range", date), validator.State{Exists: true, Modified: second}, false},
		{"GET", of("if-range", date), validator.State{HasModified: true, Modified: second}, false},
		{"GET", of("if-range", first), dated(0), true},
		{"GET", of("if-range", first), validator.State{Exists: true}, false},
		{"GET", of("if-range", last), dated(end), true},
		{"GET", of("if-range", last), dated(end + 1), false},
		{"GET", of("if-range", "x"), dated(0), false},
		{"GET", of("if-range", " "+date), a, false},
		{"GET", of("if-range", date, "if-range", date), a, false},
	} {
		if got := validator.UseRange(c.method, c.f, c.s); got != c.want {
			t.Errorf("UseRange(%q, %q, %v) = %v", c.method, c.f, c.s, got)
		}
		compareRequests(t, c.f, c.s)
	}
}

// with returns f with a field of the name for each of the values.
func with(f field.Fields, name string, values ...string) field.Fields {
	f = slices.Clone(f)
	for _, value := range values {
		f = append(f, field.Field{Name: name, Value: value})
	}
	return f
}

func TestConditionsTogether(t *testing.T) { // P10.1, P10.3
	conditions := [][]string{nil, {""}, {"*"}, {`"a"`}, {`W/"a"`}, {`"b"`}, {`"b"`, `"a"`}, {`"a", x`}}
	dates := [][]string{nil, {date}, {sooner}, {"x"}}
	for _, match := range conditions {
		f := with(nil, "if-match", match...)
		for _, before := range dates {
			f := with(f, "if-unmodified-since", before...)
			for _, none := range conditions {
				f := with(f, "if-none-match", none...)
				for _, after := range dates {
					f := with(f, "if-modified-since", after...)
					for _, s := range states() {
						compareRequest(t, "GET", f, s)
						compareRequest(t, "PUT", f, s)
					}
				}
			}
		}
	}
}

func TestTheOrderOfFieldsDoesNotMatter(t *testing.T) { // P10.1
	f := of("if-modified-since", date, "if-none-match", `"b"`, "x", "y", "if-unmodified-since", sooner, "if-match", `"a"`, "if-range", date)
	random := rand.New(rand.NewSource(1))
	for range 1000 {
		random.Shuffle(len(f), func(i, j int) { f[i], f[j] = f[j], f[i] })
		for _, s := range states() {
			compareRequest(t, some(random, methods...), f, s)
		}
	}
}

func someTag(random *rand.Rand) validator.Tag {
	tag := strong(some(random, "", "a", "b", "a,b", `\`, "W/", "*", "\xff"))
	tag.Weak = random.Intn(2) == 0
	return tag
}

// someValue returns a value that may be a tag, a list of tags or a date.
func someValue(random *rand.Rand) string {
	switch random.Intn(5) {
	case 0:
		return some(random, date, sooner, later, first, last)
	case 1:
		return some(random, "*", " * ", "")
	}
	s := ""
	for range 1 + random.Intn(3) {
		text, _ := validator.WriteTag(someTag(random))
		s += text + some(random, ",", ", ", " ,, ")
	}
	return strings.TrimRight(s, some(random, " ,", " "))
}

func someState(random *rand.Rand) validator.State {
	s := full(someTag(random), second-1+random.Intn(3))
	s.Exists = random.Intn(8) > 0
	s.HasTag = random.Intn(4) > 0
	s.HasModified = random.Intn(4) > 0
	return s
}

func TestRandomRequests(t *testing.T) { // P10.1, P10.2, P10.3
	random := rand.New(rand.NewSource(2))
	for range 50000 {
		var f field.Fields
		for range random.Intn(5) {
			value := someValue(random)
			if random.Intn(4) == 0 {
				value = samples.Spoil(random, value+" ", `"`, ",", " ", `\`, "W/", "*", "0", "\x7f")
			}
			compareRead(t, value)
			name := some(random, "if-match", "If-None-Match", "if-unmodified-since", "IF-MODIFIED-SINCE", "if-range")
			f = with(f, name, value)
		}
		compareRequest(t, some(random, methods...), f, someState(random))
		comparePair(t, someTag(random), someTag(random))
	}
}

func FuzzTags(f *testing.F) { // P10.1, P10.2
	f.Add(`"a,b" , W/""`, "a", false)
	f.Add(` *`, `\`, true)
	f.Add(`,"a\",,"`, "\xff", true)
	f.Fuzz(func(t *testing.T, s, text string, isWeak bool) {
		compareRead(t, s)
		compareWrite(t, text)
		tag := validator.Tag{Weak: isWeak, Text: text}
		comparePair(t, tag, strong(s))
		comparePair(t, tag, weak(text))
		tags, _, _ := validator.ReadTags(s)
		for _, other := range tags {
			comparePair(t, tag, other)
		}
	})
}

func FuzzConditions(f *testing.F) { // P10.1, P10.3
	f.Add("GET", "if-match", `"a"`, "if-unmodified-since", date, "a", second, 7)
	f.Add("HEAD", "if-none-match", `W/"a", "b"`, "if-modified-since", sooner, "a", second, 15)
	f.Add("GET", "if-range", date, "If-Match", "*", "", second, 5)
	f.Fuzz(func(t *testing.T, method, name, value, other, more, text string, modified, flags int) {
		s := full(validator.Tag{Weak: flags&8 != 0, Text: text}, modified)
		s.Exists, s.HasTag, s.HasModified = flags&1 != 0, flags&2 != 0, flags&4 != 0
		compareRequest(t, method, of(name, value, other, more), s)
	})
}

func TestListsOfTagsAreSeparate(t *testing.T) { // P1 with rule 3
	const s = `"a", W/"b"`
	one, _, _ := validator.ReadTags(s)
	other, _, _ := validator.ReadTags(s)
	clear(one[:cap(one)])
	if !slices.Equal(other, list(strong("a"), weak("b"))) {
		t.Errorf("the list is %v", other)
	}
}

func TestLongInputs(t *testing.T) { // P1
	const n = 1 << 18
	for _, c := range []struct {
		s    string
		tags int
		want error
	}{
		{repeat(`"a" , `, n), n, nil},
		{repeat(" ,\t", n) + `""`, 1, nil},
		{`"` + repeat(`\,`, n) + `"`, 1, nil},
		{repeat(`"`, 2*n), 0, api.ErrForm},
		{repeat("W/", n), 0, api.ErrForm},
		{repeat(" ", n), 0, api.ErrForm},
		{repeat(",", n), 0, api.ErrForm},
		{repeat("*", n), 0, api.ErrForm},
		{repeat(`"",`, n) + `"`, 0, api.ErrForm},
		{`""` + repeat(" ", n) + `""`, 0, api.ErrForm},
	} {
		tags, all, err := validator.ReadTags(c.s)
		if len(tags) != c.tags || all || err != c.want {
			t.Errorf("ReadTags of %.10q..: %d tags, %v, %v; want %d, %v", c.s, len(tags), all, err, c.tags, c.want)
		}
		f := of("if-match", c.s, "if-none-match", c.s, "if-range", c.s, "if-modified-since", c.s)
		if got := validator.Evaluate("GET", f, tagged(strong("b"))); got != validator.Failed {
			t.Errorf("Evaluate of %.10q..: %d", c.s, got)
		}
		if validator.UseRange("GET", f, tagged(strong("b"))) {
			t.Errorf("UseRange of %.10q..", c.s)
		}
	}
	long := strong(repeat("a", n))
	s, err := validator.WriteTag(long)
	if got, e := validator.ReadTag(s); got != long || err != nil || e != nil {
		t.Errorf("a tag of %d bytes: %v, %v", n, err, e)
	}
}
