package directive_test

import (
	"math"
	"math/rand"
	"slices"
	"strings"
	"testing"

	"quayside/directive"
	"quayside/field"
	"quayside/samples"
)

// of returns the fields with the names and values given in turn, and some one
// of the texts.
var (
	of   = samples.Fields
	some = samples.Some
)

func repeat(s string, n int) string {
	return strings.Repeat(s, n)
}

// controls returns cache-control fields with the values.
func controls(values ...string) field.Fields {
	var f field.Fields
	for _, value := range values {
		f = append(f, field.Field{Name: "cache-control", Value: value})
	}
	return f
}

// none has no directive. (The zero value has times of 0.)
var none = directives{MaxAge: -1, SharedAge: -1, WhileStale: -1, OnError: -1, MaxStale: -1, MinFresh: -1}

// withFlag returns none with one of its flags set, by its place.
func withFlag(i int) directives {
	d := none
	*flags(&d)[i] = true
	return d
}

// withTime returns none with one of its times set, by its place.
func withTime(i, n int) directives {
	d := none
	*times(&d)[i] = n
	return d
}

// compareParse checks Parse against reference_test.go, and P11.2 for its result
// and for the fields.
func compareParse(t *testing.T, f field.Fields) {
	t.Helper()
	kept := slices.Clone(f)
	got := directive.Parse(f)
	if want := referenceParse(f); got != want {
		t.Errorf("Parse(%.300q) = %+v; want %+v", f, got, want)
	}
	if !slices.Equal(f, kept) {
		t.Errorf("the fields %.300q were changed to %.300q", kept, f)
	}
	keepText(t, got)
	keepElements(t, f, got)
}

// keepText checks P11.2: what Format writes is read as the normalized value.
func keepText(t *testing.T, d directives) {
	t.Helper()
	text := directive.Format(d)
	if again, want := directive.Parse(controls(text)), referenceNormal(d); again != want {
		t.Errorf("Parse of %q = %+v; want %+v", text, again, want)
	}
}

// keepElements checks P11.2: one field with all the elements of the fields is
// read as these, but for values that are no lists, which have no elements.
func keepElements(t *testing.T, f field.Fields, got directives) {
	t.Helper()
	elements, refused := referenceElements(f)
	whole := directive.Parse(controls(strings.Join(elements, ", ")))
	whole.NoStore = whole.NoStore || refused
	if got != whole {
		t.Errorf("Parse(%.300q) = %+v; of one field %+v", f, got, whole)
	}
}

// compareFormat checks Format against reference_test.go, and P11.2 for d.
func compareFormat(t *testing.T, d directives) {
	t.Helper()
	if got, want := directive.Format(d), referenceFormat(d); got != want {
		t.Errorf("Format(%+v) = %q; want %q", d, got, want)
	}
	keepText(t, d)
}

// compareMerge checks Merge against reference_test.go, and the first and the
// last part of P11.3.
func compareMerge(t *testing.T, a, b directives) {
	t.Helper()
	got := directive.Merge(a, b)
	if want := referenceMerge(a, b); got != want {
		t.Errorf("Merge(%+v, %+v) = %+v; want %+v", a, b, got, want)
	}
	if turned := directive.Merge(b, a); turned != got {
		t.Errorf("Merge(%+v, %+v) = %+v; the other way round %+v", a, b, got, turned)
	}
	for _, d := range []directives{a, b, got} {
		if same := directive.Merge(d, d); same != referenceNormal(d) {
			t.Errorf("Merge of %+v with itself = %+v", d, same)
		}
	}
}

// compareMerges checks the merges of three values, and all of P11.3.
func compareMerges(t *testing.T, a, b, c directives) {
	t.Helper()
	compareMerge(t, a, b)
	left := directive.Merge(directive.Merge(a, b), c)
	right := directive.Merge(a, directive.Merge(b, c))
	if left != right {
		t.Errorf("merging %+v, %+v and %+v from the left: %+v; from the right: %+v", a, b, c, left, right)
	}
}

func TestNone(t *testing.T) { // P11.1
	if got := directive.None(); got != none {
		t.Errorf("None() = %+v", got)
	}
	for _, f := range []field.Fields{nil, {}, of("x", "no-store"), controls(""), controls(" , \t,"), controls("x", "y=1")} {
		if got := directive.Parse(f); got != none {
			t.Errorf("Parse(%q) = %+v", f, got)
		}
		compareParse(t, f)
	}
}

func TestExamples(t *testing.T) { // P11.1
	both := withTime(0, 60)
	both.Public, both.NoCache = true, true
	for _, c := range []struct {
		f    field.Fields
		want directives
	}{
		{controls("max-age=60, Public", `no-cache="set-cookie"`), both},
		{controls("max-age=60, max-age=30"), withTime(0, 30)},
		{controls(`max-age="7"`), withTime(0, 7)},
		{controls("max-age=1x"), withTime(0, 0)},
		{controls("max-age"), withTime(0, 0)},
		{controls("max-age =5"), none},
		{controls("min-fresh=x"), withTime(5, most)},
		{controls("max-stale"), withTime(4, most)},
		{controls(`max-age=5, public, x="a, private`), withFlag(0)},
	} {
		if got := directive.Parse(c.f); got != c.want {
			t.Errorf("Parse(%q) = %+v; want %+v", c.f, got, c.want)
		}
		compareParse(t, c.f)
	}
	d := withTime(0, 5)
	d.NoStore = true
	if got := directive.Format(d); got != "no-store, max-age=5" {
		t.Errorf("Format(%+v) = %q", d, got)
	}
}

func TestParseFlags(t *testing.T) { // P11.1
	follows := []string{"", "=", "=1", "=0", "=false", "=x", "= x", "==", `="x"`, `=""`, `="a, max-age=1"`, `=""x`, `="a"b"c"`, `="\""`, `=\`, "=\xff", "=\t\u00e9"}
	for i, names := range flagRows {
		for _, name := range names {
			for _, s := range []string{name, strings.ToUpper(name), strings.ToUpper(name[:1]) + name[1:], name[:3] + strings.ToUpper(name[3:])} {
				for _, follow := range follows {
					f := controls(s + follow)
					if got, want := directive.Parse(f), withFlag(i); got != want {
						t.Errorf("Parse(%q) = %+v; want %+v", f, got, want)
					}
					compareParse(t, f)
				}
			}
			compareParse(t, controls(name+", "+name+"=x", name))
		}
	}
}

// spellings are arguments with an =, and the numbers that they stand for.
var spellings = []struct {
	text string
	want int
}{
	{"=0", 0}, {"=1", 1}, {"=60", 60}, {"=9876543", 9876543}, {"=00", 0}, {"=007", 7}, {"=" + repeat("0", 1000), 0}, {"=" + repeat("0", 1000) + "5", 5},
	{"=2147483646", most - 1}, {"=2147483647", most}, {"=02147483647", most}, {"=2147483648", most}, {"=2147483650", most}, {"=3000000000", most}, {"=9999999999", most},
	{"=4294967295", most}, {"=4294967296", most}, {"=4294967301", most}, {"=999999999999999", most}, {"=1000000000000000", most},
	{"=9223372036854775807", most}, {"=9223372036854775808", most}, {"=18446744073709551616", most}, {"=18446744073709551621", most}, {"=" + repeat("9", 1000), most}, {"=1" + repeat("0", 1000), most},
	{`="0"`, 0}, {`="7"`, 7}, {`="60"`, 60}, {`="007"`, 7}, {`="\7"`, 7}, {`="6\0"`, 60}, {`="\6\0"`, 60}, {`="2147483647"`, most}, {`="2147483648"`, most}, {`="` + repeat("0", 1000) + `5"`, 5},
}

// noNumbers are arguments with an = that are no numbers.
var noNumbers = []string{
	"=", "=x", "=1x", "=x1", "=1 x", "= 5", "=\t5", "=5 5", "=-1", "=+1", "=1.5", "=.5", "=5.", "=1e3", "=0x10", "=0b1", "=1_0", "=5;", "=5;x", "=5/2", "=5:", "=5=6", "==5", "=5=",
	`=""`, `=" "`, `=" 5"`, `="5 "`, `="5,6"`, `="5, 6"`, `="-1"`, `="+1"`, `="x"`, `="1x"`, `="\x"`, `="\"5\""`, `="5\""`, `="\\5"`, `="5\\"`, `='5'`,
	`="5"x`, `="5" x`, `="5""6"`, `="5"6"7"`, `=""5`, `=""5""`, `=5""`, `=5"6"`, `=5"6"7`, `="5"=6`, `=\5`, `=5\`,
	"=\xff", "=5\xff", "=\u0665", "=\uff15", "=5\u00a0", "=\u00a05", "=\"5\u00a0\"", "=\u201c5\u201d", "=9999999999x", `="9999999999x"`,
}

func TestParseTimes(t *testing.T) { // P11.1
	for i, row := range timeRows {
		check := func(follow string, n int) {
			t.Helper()
			for _, s := range []string{row.name, strings.ToUpper(row.name), row.name[:2] + strings.ToUpper(row.name[2:])} {
				f := controls(s + follow)
				if got, want := directive.Parse(f), withTime(i, n); got != want {
					t.Errorf("Parse(%.200q) = %+v; want %+v", f, got, want)
				}
				compareParse(t, f)
			}
		}
		for _, c := range spellings {
			check(c.text, c.want)
			check(c.text+" \t", c.want)
		}
		for _, text := range noNumbers {
			check(text, row.noNumber)
		}
		check("", row.missing)
		check(" \t", row.missing)
	}
}

func TestParseSeveral(t *testing.T) { // P11.1, P11.2
	for i, row := range timeRows {
		for _, a := range spellings {
			for _, b := range spellings {
				want := withTime(i, min(a.want, b.want))
				if row.name == "min-fresh" {
					want = withTime(i, max(a.want, b.want))
				}
				for _, f := range []field.Fields{controls(row.name + a.text + "," + row.name + b.text), controls(row.name+a.text, row.name+b.text)} {
					if got := directive.Parse(f); got != want {
						t.Errorf("Parse(%.200q) = %+v; want %+v", f, got, want)
					}
				}
			}
		}
	}
	for _, c := range []struct {
		s    string
		want directives
	}{
		{"max-age=5, max-age=x", withTime(0, 0)},
		{"max-age, max-age=5", withTime(0, 0)},
		{"s-maxage=5, s-maxage", withTime(1, 0)},
		{"stale-while-revalidate=9, stale-while-revalidate=8, stale-while-revalidate=9", withTime(2, 8)},
		{"stale-if-error=, stale-if-error=9", withTime(3, 0)},
		{"max-stale, max-stale=5", withTime(4, 5)},
		{"max-stale=5, max-stale", withTime(4, 5)},
		{"max-stale, max-stale=x", withTime(4, 0)},
		{"max-stale, max-stale=", withTime(4, 0)},
		{"max-stale, max-stale", withTime(4, most)},
		{"min-fresh=5, min-fresh=7, min-fresh=6", withTime(5, 7)},
		{"min-fresh=x, min-fresh=7", withTime(5, most)},
		{"min-fresh=7, min-fresh", withTime(5, most)},
		{"min-fresh=0, min-fresh=0", withTime(5, 0)},
		{"must-revalidate, proxy-revalidate", withFlag(4)},
	} {
		if got := directive.Parse(controls(c.s)); got != c.want {
			t.Errorf("Parse(%q) = %+v; want %+v", c.s, got, c.want)
		}
		compareParse(t, controls(c.s))
		compareParse(t, controls(strings.Split(c.s, ", ")...))
	}
}

func TestParseIgnores(t *testing.T) { // P11.1
	list := []string{
		"=5", "=", `""`, `"no-store"`, `"no-store, private"`, `"max-age"=5`, `"max-age=5"`, `max-age"=5"`, `max-age"5"`, `m"ax"-age=5`, `"=5"`, `x="no-store"`, `x="a, no-store, max-age=5"`, `x=no-store`, "x=1", "x", "immutable",
		"no-store x", "no-store;", "no-store;x", "no-store:1", "no_store", "nostore", "no-stor", "no-stores", "xno-store", "-no-store", "store", "no--store", "no-", `\no-store`, `no-store\`,
		"no-\u017ftore", "\u017f-maxage=1", "pr\u0130vate", "publ\u0130c", "only-\u0130f-cached", "m\u0130n-fresh=1", "m\u0131n-fresh=1", "no\u2010store", "no-store\u00a0", "\u00a0no-store", "\xffno-store", "no-store\xff", "no\tstore",
		"sharedage=5", "shared-age=5", "maxage=5", "s-max-age=5", "max-age 5", "max-age:5", "max-age;=5", "MaxAge=5", "while-stale=5", "on-error=5", "stale=5", "error=5", "min-fresh-x=5", "max-stales", "fresh=1",
	}
	for _, names := range flagRows {
		list = append(list, names[0]+" =x", names[0]+"\t=", names[0]+" x", "x"+names[0], names[0]+"x", names[0][1:])
	}
	for _, row := range timeRows {
		list = append(list, row.name+" =5", row.name+"\t=5", row.name+" = 5", row.name+" 5", "x"+row.name+"=5", row.name+"x=5", row.name[1:]+"=5")
	}
	for _, s := range list {
		for _, f := range []field.Fields{controls(s), controls(s + ",," + s), controls("", s, s)} {
			if got := directive.Parse(f); got != none {
				t.Errorf("Parse(%q) = %+v", f, got)
			}
			compareParse(t, f)
		}
		compareParse(t, controls(s+", no-store, max-age=5"))
	}
}

func TestParseRefusedValues(t *testing.T) { // P11.1, P11.2
	for _, s := range []string{`"`, `public, max-age="5`, `public, x="a\"`, `"\`, `public, no-cache="a, private`, `x="a"b", public`, "\x00", "public\x00", "public,\x7f", "max-age=5\r", "max-age=5,\r\n public", "\x1f", "private, \x0b, public", `public="` + "\n" + `"`, repeat(`"`, 1001), "max-age=5, " + repeat(" ", 1000) + `"`} {
		f := controls(s)
		if got := directive.Parse(f); got != withFlag(0) {
			t.Errorf("Parse(%.200q) = %+v", f, got)
		}
		compareParse(t, f)
		want := withTime(0, 7)
		want.NoStore, want.MinFresh = true, 2
		for _, f := range []field.Fields{controls("max-age=7, min-fresh=2", s), controls(s, "max-age=7, min-fresh=2"), controls("max-age=7", s, "min-fresh=2"), controls(s, "max-age=7", s, "min-fresh=2, no-store")} {
			if got := directive.Parse(f); got != want {
				t.Errorf("Parse(%.200q) = %+v; want %+v", f, got, want)
			}
			compareParse(t, f)
		}
	}
	// A quoted part does not go on in another field.
	f := controls(`no-cache="a`, `b", public`)
	if got := directive.Parse(f); got != withFlag(0) {
		t.Errorf("Parse(%q) = %+v", f, got)
	}
}

func TestParseFields(t *testing.T) { // P11.1
	for _, name := range []string{"cache-control", "Cache-Control", "CACHE-CONTROL", "cAcHe-CoNtRoL"} {
		f := of("x", "private", name, "max-age=5", "pragma", "no-cache")
		if got := directive.Parse(f); got != withTime(0, 5) {
			t.Errorf("Parse(%q) = %+v", f, got)
		}
		compareParse(t, f)
	}
	for _, name := range []string{"", "cache", "cache-control ", " cache-control", "cache-controls", "cache_control", "xcache-control", "cdn-cache-control", "surrogate-control", "pragma", "cache-contro\u2113", "cache-control\x00"} {
		f := of(name, "max-age=5, private", name, `"`)
		if got := directive.Parse(f); got != none {
			t.Errorf("Parse(%q) = %+v", f, got)
		}
		compareParse(t, f)
	}
	want := withTime(0, 5)
	want.SharedAge, want.Private = 9, true
	for _, f := range []field.Fields{of("cache-control", "max-age=5", "a", "b", "CACHE-control", "private, s-maxage=9"), of("Cache-Control", "private", "cache-control", ",s-maxage=9,,", "cache-control", "", "cache-control", "\tmax-age=5\t,")} {
		if got := directive.Parse(f); got != want {
			t.Errorf("Parse(%q) = %+v; want %+v", f, got, want)
		}
		compareParse(t, f)
	}
}

func TestParseAll(t *testing.T) { // P11.1, P11.2
	const text = "no-store, no-cache, private, public, must-revalidate, only-if-cached, max-age=1, s-maxage=2, stale-while-revalidate=3, stale-if-error=4, max-stale=5, min-fresh=6"
	want := directives{true, true, true, true, true, true, 1, 2, 3, 4, 5, 6}
	elements := strings.Split(text, ", ")
	random := rand.New(rand.NewSource(1))
	for range 1000 {
		for _, f := range []field.Fields{controls(elements...), controls(strings.Join(elements, ",")), controls(strings.Join(elements[:6], " , "), strings.Join(elements[6:], ",\t"))} {
			if got := directive.Parse(f); got != want {
				t.Errorf("Parse(%q) = %+v", f, got)
			}
		}
		random.Shuffle(len(elements), func(i, j int) { elements[i], elements[j] = elements[j], elements[i] })
	}
	if got := directive.Format(want); got != text {
		t.Errorf("Format(%+v) = %q", want, got)
	}
	compareParse(t, controls(text))
}

func TestParseShortValues(t *testing.T) { // P11.1, P11.2
	for _, parts := range [][]string{
		{"max-age", "Max-Stale", "=", "1", "x", `"`, `\`, ",", " "},
		{"min-fresh=", "no-cache", "2", "=", `"`, `\`, ",", "\t", "\x7f"},
	} {
		samples.Strings(5, parts, func(s string) {
			compareParse(t, controls(s))
		})
	}
}

func TestParsePairsOfShortValues(t *testing.T) { // P11.1, P11.2
	var values []string
	samples.Strings(2, []string{"max-age=1", "max-stale", "min-fresh", "=", "2", `"`, ",", "public"}, func(s string) {
		values = append(values, s)
	})
	for _, a := range values {
		for _, b := range values {
			compareParse(t, controls(a, b))
		}
	}
}

func TestEachByteOfAValue(t *testing.T) { // P11.1, P11.2
	for _, s := range []string{"no-store", `Private="a"`, "max-age=60", `s-maxage="10"`, "max-stale, Public", `min-fresh=5,x=","`} {
		samples.Edits(s, func(s string) {
			compareParse(t, controls(s))
		})
	}
}

func TestFormat(t *testing.T) { // P11.1, P11.2
	all := directives{true, true, true, true, true, true, most, most, most, most, most, most}
	for _, c := range []struct {
		d    directives
		want string
	}{
		{none, ""},
		{directives{}, "max-age=0, s-maxage=0, stale-while-revalidate=0, stale-if-error=0, max-stale=0, min-fresh=0"},
		{all, "no-store, no-cache, private, public, must-revalidate, only-if-cached, max-age=2147483647, s-maxage=2147483647, stale-while-revalidate=2147483647, stale-if-error=2147483647, max-stale, min-fresh=2147483647"},
		{withTime(4, most), "max-stale"},
		{withTime(4, most+1), "max-stale"},
		{withTime(4, math.MaxInt), "max-stale"},
		{withTime(4, most-1), "max-stale=2147483646"},
		{withTime(4, 0), "max-stale=0"},
		{withTime(4, -2), ""},
		{withTime(0, math.MaxInt), "max-age=2147483647"},
		{withTime(5, 1<<32), "min-fresh=2147483647"},
		{withTime(5, math.MinInt), ""},
		{directives{MinFresh: -5, MaxStale: -1, OnError: math.MinInt, WhileStale: -most, SharedAge: -1 << 32, MaxAge: 1 << 32}, "max-age=2147483647"},
	} {
		if got := directive.Format(c.d); got != c.want {
			t.Errorf("Format(%+v) = %q; want %q", c.d, got, c.want)
		}
		compareFormat(t, c.d)
	}
	for i, names := range flagRows {
		if got := directive.Format(withFlag(i)); got != names[0] {
			t.Errorf("Format(%+v) = %q", withFlag(i), got)
		}
	}
}

// moments are times, of which some are not normal.
var moments = []int{math.MinInt, -1 << 32, -most - 1, -2, -1, 0, 1, 5, 60, most - 1, most, most + 1, 1<<32 - 1, 1 << 32, math.MaxInt}

func TestFormatAndMergeOfEachItem(t *testing.T) { // P11.1, P11.2, P11.3
	for i := range timeRows {
		for _, a := range moments {
			compareFormat(t, withTime(i, a))
			for _, b := range moments {
				for j := range timeRows {
					compareMerge(t, withTime(i, a), withTime(j, b))
				}
				for _, c := range moments {
					compareMerges(t, withTime(i, a), withTime(i, b), withTime(i, c))
				}
			}
		}
	}
}

func TestFormatAndMergeOfFlags(t *testing.T) { // P11.1, P11.2, P11.3
	choose := func(bits int) directives {
		d := none
		for i, there := range flags(&d) {
			*there = bits>>i&1 != 0
		}
		return d
	}
	for a := range 64 {
		compareFormat(t, choose(a))
		for b := range 64 {
			for c := range 64 {
				compareMerges(t, choose(a), choose(b), choose(c))
			}
		}
	}
}

func TestMerge(t *testing.T) { // P11.1
	full := directives{true, true, true, true, true, true, 60, 10, 5, 9, 7, 3}
	for _, c := range []struct{ a, b, want directives }{
		{none, none, none},
		{full, full, full},
		{full, none, directives{true, true, true, false, true, true, 60, 10, -1, -1, -1, 3}},
		{full, directives{}, directives{NoStore: true, NoCache: true, Private: true, MustRevalidate: true, OnlyIfCached: true, MinFresh: 3}},
		{none, directives{}, directives{WhileStale: -1, OnError: -1, MaxStale: -1}},
		{full, directives{Public: true, MaxAge: 70, SharedAge: 9, WhileStale: 6, OnError: 8, MaxStale: most, MinFresh: most}, directives{true, true, true, true, true, true, 60, 9, 5, 8, 7, most}},
		{withTime(0, math.MaxInt), withTime(0, -7), withTime(0, most)},
		{withTime(1, 1<<32), withTime(1, 1<<33), withTime(1, most)},
		{withTime(2, 1<<32), withTime(2, 1<<33), withTime(2, most)},
		{withTime(3, 4), withTime(3, -7), none},
		{withTime(4, most), withTime(4, 5), withTime(4, 5)},
		{withTime(4, most), none, none},
		{withTime(5, -9), withTime(5, -8), none},
		{withTime(5, 0), none, withTime(5, 0)},
		{withTime(5, math.MaxInt), withTime(5, 8), withTime(5, most)},
		{withFlag(3), none, none},
		{withFlag(3), withFlag(3), withFlag(3)},
		{withFlag(0), none, withFlag(0)},
	} {
		if got := directive.Merge(c.a, c.b); got != c.want {
			t.Errorf("Merge(%+v, %+v) = %+v; want %+v", c.a, c.b, got, c.want)
		}
		compareMerges(t, c.a, c.b, none)
	}
}

// someDirectives returns directives of which each item is chosen alone.
func someDirectives(random *rand.Rand) directives {
	var d directives
	for _, there := range flags(&d) {
		*there = random.Intn(2) == 0
	}
	for _, n := range times(&d) {
		*n = moments[random.Intn(len(moments))]
	}
	return d
}

// someElement returns what may be an element of a list.
func someElement(random *rand.Rand) string {
	name := some(random, "", "x", "no-store ", "max-age\t")
	if random.Intn(8) > 0 {
		name = some(random, "max-age", "MAX-AGE", "s-maxage", "stale-while-revalidate", "stale-if-error", "max-stale", "Max-Stale", "min-fresh", "no-store", "no-cache", "Private", "public", "must-revalidate", "proxy-revalidate", "only-if-cached")
	}
	switch random.Intn(6) {
	case 0:
		return name
	case 1:
		return name + noNumbers[random.Intn(len(noNumbers))]
	case 2:
		return name + `="` + some(random, "", "a, b", `\"`, "5", `\5`, "no-store,max-age=1") + `"`
	}
	return name + spellings[random.Intn(len(spellings))].text
}

func TestRandomFields(t *testing.T) { // P11.1, P11.2
	random := rand.New(rand.NewSource(2))
	for range 20000 {
		var f field.Fields
		for range random.Intn(4) {
			value := ""
			for range random.Intn(4) {
				value += someElement(random) + some(random, ",", ", ", "\t, ,", " ")
			}
			if random.Intn(4) == 0 {
				value = samples.Spoil(random, value+" ", `"`, ",", " ", `\`, "=", "0", "\x7f", "a")
			}
			f = append(f, of(some(random, "cache-control", "cache-control", "Cache-Control", "x"), value)...)
		}
		compareParse(t, f)
	}
}

func TestRandomDirectives(t *testing.T) { // P11.1, P11.2, P11.3
	random := rand.New(rand.NewSource(3))
	for range 20000 {
		a, b, c := someDirectives(random), someDirectives(random), someDirectives(random)
		compareFormat(t, a)
		compareMerges(t, a, b, c)
	}
}

func FuzzFields(f *testing.F) { // P11.1, P11.2
	f.Add("Cache-Control", "max-age=60, Public", `no-cache="set-cookie"`)
	f.Add("cache-control", `max-age="7", max-stale`, "min-fresh=x,max-age=\"5")
	f.Add("x", `s-maxage=9999999999999999, "`, "stale-if-error, stale-while-revalidate=08")
	f.Fuzz(func(t *testing.T, name, value, more string) {
		compareParse(t, of(name, value, "cache-control", more))
		compareParse(t, controls(more, value))
	})
}

func FuzzDirectives(f *testing.F) { // P11.1, P11.2, P11.3
	f.Add(0, 60, 10, 5, 9, 7, 3)
	f.Add(0x3f08, -1, most, most+1, -2, most, 0)
	f.Fuzz(func(t *testing.T, bits, age, shared, while, onError, stale, fresh int) {
		a := directives{MaxAge: age, SharedAge: shared, WhileStale: while, OnError: onError, MaxStale: stale, MinFresh: fresh}
		b := directives{MaxAge: shared, SharedAge: age, WhileStale: onError, OnError: while, MaxStale: fresh, MinFresh: stale}
		for i := range flagRows {
			*flags(&a)[i] = bits>>i&1 != 0
			*flags(&b)[i] = bits>>(8+i)&1 != 0
		}
		compareFormat(t, a)
		compareFormat(t, b)
		compareMerges(t, a, b, none)
		compareMerges(t, b, directives{}, a)
	})
}

func TestLongInputs(t *testing.T) { // P1
	const n = 1 << 18
	all := withTime(0, 1)
	all.MaxStale, all.MinFresh, all.NoCache = most, most, true
	for _, c := range []struct {
		s    string
		want directives
	}{
		{repeat(",", n), none},
		{repeat("=", n), none},
		{repeat("\xff", n), none},
		{repeat(`"`, n), none},
		{repeat(`"`, n+1), withFlag(0)},
		{repeat("max-age=1, max-stale, min-fresh,no-cache,", n), all},
		{"max-age=" + repeat("0", n), withTime(0, 0)},
		{"max-age=" + repeat("0", n) + "5", withTime(0, 5)},
		{"max-age=" + repeat("9", n), withTime(0, most)},
		{"max-age=" + repeat("9", n) + "x", withTime(0, 0)},
		{`max-age="` + repeat(`\0`, n) + `5"`, withTime(0, 5)},
		{`max-age="` + repeat(`\"`, n) + `"`, withTime(0, 0)},
		{"max-age=" + repeat(`""`, n), withTime(0, 0)},
		{repeat("max-age", n), none},
	} {
		if got := directive.Parse(controls(c.s)); got != c.want {
			t.Errorf("Parse of %.20q.. = %+v; want %+v", c.s, got, c.want)
		}
	}
	values := slices.Repeat([]string{"max-age=1", "max-stale, min-fresh", "no-cache"}, n)
	if got := directive.Parse(controls(values...)); got != all {
		t.Errorf("Parse of %d fields = %+v", len(values), got)
	}
}
