package field_test

import (
	"fmt"
	"math/rand"
	"slices"
	"strings"
	"testing"

	"quayside/api"
	"quayside/field"
	"quayside/samples"
)

type fields = field.Fields

// of returns the fields with the names and values given in turn.
var of = samples.Fields

func TestName(t *testing.T) { // P2.1
	long := strings.Repeat("Ab", 32)
	for _, c := range []struct {
		s, want string
		err     error
	}{
		{"a", "a", nil},
		{"ETag", "etag", nil},
		{"X-A_1", "x-a_1", nil},
		{"!#$%&'*+-.^_`|~09AZaz", "!#$%&'*+-.^_`|~09azaz", nil},
		{long, strings.ToLower(long), nil},
		{long[:63], strings.ToLower(long[:63]), nil},
		{long + "a", "", api.ErrLarge},
		{strings.Repeat(long, 100), "", api.ErrLarge},
		{"", "", api.ErrName},
		{"a:", "", api.ErrName},
		{"a b", "", api.ErrName},
		{" a", "", api.ErrName},
		{"a ", "", api.ErrName},
		{"a\t", "", api.ErrName},
		{`"a"`, "", api.ErrName},
		{"a,b", "", api.ErrName},
		{"a\r", "", api.ErrName},
		{"\x00", "", api.ErrName},
		{"\x7f", "", api.ErrName},
		{"\u212a", "", api.ErrName},
		{"\xff", "", api.ErrName},
		{long + " ", "", api.ErrName},
		{strings.Repeat(" ", 65), "", api.ErrName},
	} {
		if got, err := field.Name(c.s); got != c.want || err != c.err {
			t.Errorf("Name(%q) = %q, %v; want %q, %v", c.s, got, err, c.want, c.err)
		}
	}
}

func TestValue(t *testing.T) { // P2.1
	long := strings.Repeat("a\tB ", 512)[:2047] + "c"
	for _, c := range []struct {
		s, want string
		err     error
	}{
		{"", "", nil},
		{" \t ", "", nil},
		{"a", "a", nil},
		{" a b\t", "a b", nil},
		{"\t\ta\tb  ", "a\tb", nil},
		{"A, \"B\"", "A, \"B\"", nil},
		{"\x80\xff\u00c9\u00a0", "\x80\xff\u00c9\u00a0", nil},
		{long, long, nil},
		{long[:2047], strings.TrimRight(long[:2047], " "), nil},
		{" " + long + "\t", long, nil},
		{strings.Repeat(" ", 5000) + "a" + strings.Repeat("\t", 5000), "a", nil},
		{strings.Repeat(" ", 5000), "", nil},
		{long + "d", "", api.ErrLarge},
		{" " + long + "d ", "", api.ErrLarge},
		{strings.Repeat("a", 1<<20), "", api.ErrLarge},
		{"a\rb", "", api.ErrForm},
		{"a\n", "", api.ErrForm},
		{"\r\n", "", api.ErrForm},
		{"\x00", "", api.ErrForm},
		{"\x7f", "", api.ErrForm},
		{"\va", "", api.ErrForm},
		{long + "d\x1f", "", api.ErrForm},
	} {
		if got, err := field.Value(c.s); got != c.want || err != c.err {
			t.Errorf("Value(%.40q) = %.40q, %v; want %.40q, %v", c.s, got, err, c.want, c.err)
		}
	}
}

func TestNameAndValueOfEachByte(t *testing.T) { // P2.1
	for c := range 256 {
		for _, s := range []string{string([]byte{byte(c)}), string([]byte{'a', byte(c)}), string([]byte{byte(c), 'a'}), string([]byte{'a', byte(c), 'a'})} {
			compareTexts(t, s)
		}
	}
}

// compareTexts checks the functions of one string against reference_test.go.
func compareTexts(t *testing.T, s string) {
	t.Helper()
	name, err := referenceName(s)
	if got, e := field.Name(s); got != name || e != err {
		t.Errorf("Name(%q) = %q, %v; want %q, %v", s, got, e, name, err)
	}
	value, err := referenceValue(s)
	if got, e := field.Value(s); got != value || e != err {
		t.Errorf("Value(%q) = %q, %v; want %q, %v", s, got, e, value, err)
	}
	compareCheck(t, of(s, "x"))
	compareCheck(t, of("x", s))
}

func compareCheck(t *testing.T, f fields) {
	t.Helper()
	if got, want := field.Check(f), referenceCheck(f); got != want {
		t.Errorf("Check(%q) = %v; want %v", f, got, want)
	}
}

func TestCheck(t *testing.T) { // P2.1
	name, value := strings.Repeat("n", 64), strings.Repeat("v", 2048)
	for _, c := range []struct {
		f    fields
		want error
	}{
		{nil, nil},
		{fields{}, nil},
		{of("a", "1"), nil},
		{of("a", "", "a", "", "b", "x, y"), nil},
		{of(name, value), nil},
		{of("a", "1", "A", "1"), api.ErrName},
		{of("", "1"), api.ErrName},
		{of("a b", "1"), api.ErrName},
		{of("\xff", "1"), api.ErrName},
		{of(name+"n", "1"), api.ErrLarge},
		{of(strings.ToUpper(name), "1"), api.ErrName},
		{of(strings.ToUpper(name)+"N", "1"), api.ErrLarge},
		{of("a", " x"), api.ErrForm},
		{of("a", "x\t"), api.ErrForm},
		{of("a", " "), api.ErrForm},
		{of("a", "x\n"), api.ErrForm},
		{of("a", value+" "), api.ErrForm},
		{of("a", value+"v"), api.ErrLarge},
		{of("a", " "+value+"v"), api.ErrLarge},
		{of("a", value+"v\r"), api.ErrForm},
		// The name of a field comes before its value, and a field before the next.
		{of("A", "x\n"), api.ErrName},
		{of("A", value+"v"), api.ErrName},
		{of(name+"n", "x\n"), api.ErrLarge},
		{of("a", " x", "B", "1"), api.ErrForm},
		{of("a", value+"v", "B", "1"), api.ErrLarge},
		{of("a", "1", "b", " x", "c:", "1"), api.ErrForm},
	} {
		if got := field.Check(c.f); got != c.want {
			t.Errorf("Check(%.60q) = %v; want %v", c.f, got, c.want)
		}
	}
}

func TestCheckOfManyFields(t *testing.T) { // P2.1
	f := slices.Repeat(of("a", "1"), 64)
	if err := field.Check(f); err != nil {
		t.Errorf("64 fields: %v", err)
	}
	if err := field.Check(append(slices.Clone(f), f[0])); err != api.ErrLarge {
		t.Errorf("65 fields: %v", err)
	}
	if err := field.Check(slices.Repeat(of("A", "\n"), 65)); err != api.ErrLarge {
		t.Errorf("65 fields that are not canonical: %v", err)
	}
	f[63].Value = "x "
	if err := field.Check(f); err != api.ErrForm {
		t.Errorf("64 fields, the last one not canonical: %v", err)
	}
	f[63] = field.Field{Name: "B", Value: "x "}
	if err := field.Check(f); err != api.ErrName {
		t.Errorf("64 fields, the last one with a bad name: %v", err)
	}
}

func TestAllAndGet(t *testing.T) { // P2.1
	f := of("A", "1", "b", "x", "a", "2", "", "n", "\u212a", "k", "C d", " y ", "a", "", "E", "")
	for _, c := range []struct {
		name string
		all  []string
		get  string
	}{
		{"a", []string{"1", "2", ""}, "1, 2, "},
		{"A", []string{"1", "2", ""}, "1, 2, "},
		{"B", []string{"x"}, "x"},
		{"", []string{"n"}, "n"},
		{"c D", []string{" y "}, " y "},
		{"\u212a", []string{"k"}, "k"},
		{"e", []string{""}, ""},
		{"k", nil, ""},
		{"aa", nil, ""},
		{" a", nil, ""},
		{"d", nil, ""},
	} {
		if got := field.All(f, c.name); !slices.Equal(got, c.all) {
			t.Errorf("All(%q) = %q; want %q", c.name, got, c.all)
		}
		if got, ok := field.Get(f, c.name); got != c.get || ok != (c.all != nil) {
			t.Errorf("Get(%q) = %q, %v; want %q", c.name, got, ok, c.get)
		}
	}
	if list := field.All(nil, "a"); len(list) != 0 {
		t.Errorf("All of no fields = %q", list)
	}
	if got, ok := field.Get(nil, ""); got != "" || ok {
		t.Errorf("Get of no fields = %q, %v", got, ok)
	}
}

func TestSetAddAndRemove(t *testing.T) { // P2.1
	f := of("A", "1", "b", "x", "a", "2")
	for _, c := range []struct {
		what      string
		got, want fields
	}{
		{"Set a", field.Set(f, "a", "3"), of("a", "3", "b", "x")},
		{"Set A", field.Set(f, "A", "3"), of("a", "3", "b", "x")},
		{"Set B", field.Set(f, "B", " y\r"), of("A", "1", "b", " y\r", "a", "2")},
		{"Set C", field.Set(f, "C", ""), of("A", "1", "b", "x", "a", "2", "c", "")},
		{"Set without a name", field.Set(f, "", "y"), of("A", "1", "b", "x", "a", "2", "", "y")},
		{"Set again without a name", field.Set(of("", "1", "", "2"), "", "y"), of("", "y")},
		{"Set of none", field.Set(nil, "A B", "y"), of("a b", "y")},
		{"Set the last", field.Set(of("b", "x", "C", "1", "c", "2", "C", "3"), "c", "4"), of("b", "x", "c", "4")},
		{"Add a", field.Add(f, "a", "3"), of("A", "1", "b", "x", "a", "2", "a", "3")},
		{"Add B", field.Add(f, "B", " y\r"), of("A", "1", "b", "x", "a", "2", "b", " y\r")},
		{"Add of none", field.Add(nil, "\u212aA:", ""), of("\u212aa:", "")},
		{"Remove a", field.Remove(f, "a"), of("b", "x")},
		{"Remove A", field.Remove(f, "A"), of("b", "x")},
		{"Remove B", field.Remove(f, "B"), of("A", "1", "a", "2")},
		{"Remove c", field.Remove(f, "c"), f},
		{"Remove without a name", field.Remove(f, ""), f},
		{"Remove of none", field.Remove(nil, "a"), nil},
		{"Remove the only one", field.Remove(of("a", "1"), "A"), nil},
	} {
		if !slices.Equal(c.got, c.want) {
			t.Errorf("%s: %q; want %q", c.what, c.got, c.want)
		}
	}
}

func TestStripOfHopNames(t *testing.T) { // P2.1
	for _, name := range []string{"connection", "keep-alive", "proxy-connection", "proxy-authenticate", "proxy-authorization", "te", "trailer", "transfer-encoding", "upgrade"} {
		for _, text := range []string{name, strings.ToUpper(name), strings.ToUpper(name[:1]) + name[1:]} {
			f := of("a", "1", text, "x", "B", "2", text, "y")
			if got := field.Strip(f); !slices.Equal(got, of("a", "1", "B", "2")) {
				t.Errorf("Strip with %q = %q", text, got)
			}
		}
		f := of(name+"s", "1", "x"+name, "2", name[1:], "3")
		if got := field.Strip(f); !slices.Equal(got, f) {
			t.Errorf("Strip(%q) = %q", f, got)
		}
	}
	kept := of("trailers", "", "te ", "", "", "", "cache-control", "no-store", "host", "a", "content-length", "1", "warning", "x", "via", "y", "proxy", "z", "close", "")
	if got := field.Strip(kept); !slices.Equal(got, kept) {
		t.Errorf("Strip(%q) = %q", kept, got)
	}
}

func TestStripOfNamedFields(t *testing.T) { // P2.1
	rest := of("A", "1", "b", "2", "c", "3", `"d,e"`, "4", "d", "5", "", "6", "\u212a", "7", "f g", "8", `h;i="j,k"`, "9", "a", "10")
	for _, c := range []struct {
		connections []string
		left        string
	}{
		{nil, "1 2 3 4 5 6 7 8 9 10"},
		{[]string{""}, "1 2 3 4 5 6 7 8 9 10"},
		{[]string{" ,, "}, "1 2 3 4 5 6 7 8 9 10"},
		{[]string{"a"}, "2 3 4 5 6 7 8 9"},
		{[]string{"B, A"}, "3 4 5 6 7 8 9"},
		{[]string{"B", "keep-alive", "close,\tC "}, "1 4 5 6 7 8 9 10"},
		{[]string{`"D,e"`}, "1 2 3 5 6 7 8 9 10"},
		{[]string{`d,e`}, "1 2 3 4 6 7 8 9 10"},
		{[]string{"F g"}, "1 2 3 4 5 6 7 9 10"},
		{[]string{`H;i="J,K"`}, "1 2 3 4 5 6 7 8 10"},
		{[]string{"k"}, "1 2 3 4 5 6 7 8 9 10"},
		{[]string{"\u212a"}, "1 2 3 4 5 6 8 9 10"},
		// What List refuses has no elements, but the other values still do.
		{[]string{`a, "b`}, "1 2 3 4 5 6 7 8 9 10"},
		{[]string{"a\r", "b"}, "1 3 4 5 6 7 8 9 10"},
		{[]string{"a", "b\x00", "c"}, "2 4 5 6 7 8 9"},
	} {
		f := slices.Clone(rest)
		for i, value := range c.connections {
			at := len(f) * i / 2
			f = slices.Insert(f, at, field.Field{Name: "Connection", Value: value})
		}
		var left []string
		for _, x := range field.Strip(f) {
			left = append(left, x.Value)
		}
		if strings.Join(left, " ") != c.left {
			t.Errorf("Strip with the connections %q leaves %q; want %s", c.connections, left, c.left)
		}
	}
	if got := field.Strip(nil); len(got) != 0 {
		t.Errorf("Strip of no fields = %q", got)
	}
	if got := field.Strip(of("x", "a", "keep-alive", "x", "te", "x")); !slices.Equal(got, of("x", "a")) {
		t.Errorf("a field other than connection names fields: %q", got)
	}
}

func TestSame(t *testing.T) { // P2.1
	for _, c := range []struct {
		a, b fields
		want bool
	}{
		{nil, nil, true},
		{nil, fields{}, true},
		{of("a", "1"), of("A", "1"), true},
		{of("A", "1", "b", "x", "a", "2"), of("b", "x", "a", "1", "A", "2"), true},
		{of("a", "1", "B", "1", "c", "1"), of("C", "1", "a", "1", "b", "1"), true},
		{of("", "1", "\xff", "2"), of("\xff", "2", "", "1"), true},
		{of("a", "1", "a", "1"), of("a", "1", "A", "1"), true},
		{of("a", "1", "a", "2"), of("a", "2", "a", "1"), false},
		{of("a", "1", "a", "1"), of("a", "1"), false},
		{of("a", "1"), nil, false},
		{of("a", ""), nil, false},
		{of("", ""), nil, false},
		{nil, of("a", ""), false},
		{of("a", "1"), of("a", "1", "b", "2"), false},
		{of("a", "1", "b", "2"), of("a", "1", "c", "2"), false},
		{of("a", "1", "b", "2"), of("a", "2", "b", "1"), false},
		{of("a", "x"), of("a", "X"), false},
		{of("a", "1, 2"), of("a", "1", "a", "2"), false},
		{of("a", "1", "a", "1", "b", "2"), of("a", "1", "b", "2", "b", "2"), false},
		{of("k", "1"), of("\u212a", "1"), false},
	} {
		if got := field.Same(c.a, c.b); got != c.want {
			t.Errorf("Same(%q, %q) = %v", c.a, c.b, got)
		}
		if got := field.Same(c.b, c.a); got != c.want {
			t.Errorf("Same(%q, %q) = %v", c.b, c.a, got)
		}
	}
}

func TestSize(t *testing.T) { // P2.1
	for _, c := range []struct {
		f    fields
		want int
	}{
		{nil, 0},
		{of("", ""), 4},
		{of("a", "bc"), 7},
		{of("a", "bc", "a", "bc"), 14},
		{of("\u00e9", "\xff", "", "1"), 12},
		{of(strings.Repeat("n", 1000), strings.Repeat("v", 5000)), 6004},
	} {
		if got := field.Size(c.f); got != c.want {
			t.Errorf("Size(%.60q) = %d; want %d", c.f, got, c.want)
		}
	}
}

// compareFields checks the functions of fields against reference_test.go.
func compareFields(t *testing.T, f fields, name, value string) {
	t.Helper()
	kept := slices.Clone(f)
	compareCheck(t, f)
	all := field.All(f, name)
	if want := referenceAll(f, name); !slices.Equal(all, want) {
		t.Errorf("All(%q, %q) = %q; want %q", f, name, all, want)
	}
	if got, ok := field.Get(f, name); got != strings.Join(all, ", ") || ok != (len(all) > 0) {
		t.Errorf("Get(%q, %q) = %q, %v", f, name, got, ok)
	}
	for _, c := range []struct {
		what      string
		got, want fields
	}{
		{"Set", field.Set(f, name, value), referenceSet(f, name, value)},
		{"Add", field.Add(f, name, value), append(slices.Clone(f), field.Field{Name: referenceLower(name), Value: value})},
		{"Remove", field.Remove(f, name), referenceRemove(f, name)},
		{"Strip", field.Strip(f), referenceStrip(f)},
	} {
		if !slices.Equal(c.got, c.want) {
			t.Errorf("%s(%q) with %q, %q = %q; want %q", c.what, f, name, value, c.got, c.want)
		}
	}
	if got, want := field.Size(f), referenceSize(f); got != want {
		t.Errorf("Size(%q) = %d; want %d", f, got, want)
	}
	if !slices.Equal(f, kept) {
		t.Errorf("the argument %q was changed to %q", kept, f)
	}
}

// keepPromise is P2.2.
func keepPromise(t *testing.T, f fields, name, value string) {
	t.Helper()
	set, added, removed := field.Set(f, name, value), field.Add(f, name, value), field.Remove(f, name)
	if got, ok := field.Get(set, name); got != value || !ok {
		t.Errorf("Get(Set(%q, %q, %q)) = %q, %v", f, name, value, got, ok)
	}
	for what, changed := range map[string]fields{"Set": set, "Add": added, "Remove": removed} {
		if got, want := others(changed, name), others(f, name); !slices.Equal(got, want) {
			t.Errorf("%s(%q, %q) makes the other fields %q", what, f, name, got)
		}
	}
	stripped := field.Strip(f)
	if again := field.Strip(stripped); !slices.Equal(again, stripped) {
		t.Errorf("Strip(Strip(%q)) = %q; Strip gives %q", f, again, stripped)
	}
}

// others returns the fields of other names, as they are.
func others(f fields, name string) fields {
	var list fields
	for _, x := range f {
		if referenceLower(x.Name) != referenceLower(name) {
			list = append(list, x)
		}
	}
	return list
}

func TestAllShortLists(t *testing.T) { // P2.1, P2.2
	from := of("a", "1", "A", "2", "b", "1", "Connection", "B, te", "connection", `x, "`, "TE", "", "", "a", "X", "\n")
	samples.Lists(4, from, func(f fields) {
		for _, name := range []string{"a", "B", "CONNECTION", ""} {
			compareFields(t, f, name, "a, x")
			keepPromise(t, f, name, "a, x")
		}
	})
}

func TestSameOfAllShortLists(t *testing.T) { // P2.1
	from := of("a", "1", "A", "1", "a", "2", "b", "1", "", "1")
	var all []fields
	samples.Lists(3, from, func(f fields) { all = append(all, f) })
	for _, a := range all {
		for _, b := range all {
			if got, want := field.Same(a, b), referenceSame(a, b); got != want {
				t.Errorf("Same(%q, %q) = %v", a, b, got)
			}
		}
	}
}

func TestSameOfShuffledLists(t *testing.T) { // P2.1
	random := rand.New(rand.NewSource(3))
	for range 2000 {
		a := someFields(random, 40)
		b := slices.Clone(a)
		random.Shuffle(len(b), func(i, j int) { b[i], b[j] = b[j], b[i] })
		if got, want := field.Same(a, b), referenceSame(a, b); got != want {
			t.Errorf("Same(%q, %q) = %v", a, b, got)
		}
		slices.SortStableFunc(b, func(x, y field.Field) int {
			return strings.Compare(referenceLower(y.Name), referenceLower(x.Name))
		})
		if got, want := field.Same(a, b), referenceSame(a, b); got != want {
			t.Errorf("Same(%q, %q) = %v", a, b, got)
		}
	}
}

func TestRandomLists(t *testing.T) { // P2.1, P2.2
	random := rand.New(rand.NewSource(4))
	for range 10000 {
		f := someFields(random, 70)
		x := someFields(random, 1)[0]
		compareFields(t, f, x.Name, x.Value)
		keepPromise(t, f, x.Name, x.Value)
	}
}

// someFields returns at least one and at most n fields.
func someFields(random *rand.Rand, n int) fields {
	names := []string{"a", "A", "b", "x-a", "X-a", "Connection", "connection", "te", "Upgrade", "trailer", "", "a b", "\xff", "\u00c9", "a:", "host"}
	values := []string{"", "1", "2", "a", "A, x-a", `b, "`, "close", " x ", "\r", "\xff", `"a,b"`, "te"}
	var f fields
	for range 1 + random.Intn(n) {
		f = append(f, field.Field{Name: names[random.Intn(len(names))], Value: values[random.Intn(len(values))]})
	}
	return f
}

func FuzzFields(f *testing.F) { // P2.1, P2.2
	f.Add("A", "1", "connection", "close, x-a", "X-A", " b\t")
	f.Add("", "\r", "te", `"`, "\xff", "\x7f")
	f.Fuzz(func(t *testing.T, name, value, other, text, third, last string) {
		for _, s := range []string{name, value, other, text, third, last} {
			compareTexts(t, s)
		}
		list := of(name, value, other, text, third, last, name, text)
		compareFields(t, list, name, last)
		keepPromise(t, list, third, value)
		back := of(third, last, name, value, other, text, name, text)
		if got, want := field.Same(list, back), referenceSame(list, back); got != want {
			t.Errorf("Same(%q, %q) = %v", list, back, got)
		}
	})
}

func TestArgumentsAndResultsAreSeparate(t *testing.T) { // P2.1
	f := make(fields, 3, 10)
	copy(f, of("Connection", "b", "A", "1", "b", "2"))
	whole := f[:cap(f)]
	kept := slices.Clone(whole)
	for what, use := range map[string]func() fields{
		"Set":         func() fields { return field.Set(f, "a", "x") },
		"Set of none": func() fields { return field.Set(f, "d", "x") },
		"Add":         func() fields { return field.Add(f, "a", "x") },
		"Remove":      func() fields { return field.Remove(f, "a") },
		"Remove none": func() fields { return field.Remove(f, "d") },
		"Strip":       func() fields { return field.Strip(f) },
		"Strip none":  func() fields { return field.Strip(f[1:]) },
	} {
		first := use()
		second := use()
		want := fmt.Sprintf("%q", second)
		clear(first)
		if !slices.Equal(whole, kept) {
			t.Fatalf("%s shares memory with its argument, or changes it: %q", what, whole)
		}
		if got := fmt.Sprintf("%q", second); got != want {
			t.Errorf("two results of %s share memory: %s", what, got)
		}
	}
	field.Same(f, f)
	field.Check(f)
	field.Size(f)
	clear(field.All(f, "a"))
	if !slices.Equal(whole, kept) {
		t.Errorf("an argument was changed: %q", whole)
	}
}

func TestLongLists(t *testing.T) { // P1
	const n = 1 << 17
	var f fields
	var names []string
	for i := range n {
		name := fmt.Sprintf("N%d", i)
		f = append(f, field.Field{Name: name, Value: "1"})
		names = append(names, name)
	}
	back := slices.Clone(f)
	slices.Reverse(back)
	if !field.Same(f, back) || field.Same(f, back[1:]) {
		t.Error("Same")
	}
	if got := field.Strip(append(slices.Clone(f), field.Field{Name: "connection", Value: strings.Join(names[1:], ",")})); !slices.Equal(got, f[:1]) {
		t.Errorf("Strip leaves %d", len(got))
	}
	if got := field.Set(slices.Repeat(of("A", "1"), n), "a", "2"); !slices.Equal(got, of("a", "2")) {
		t.Errorf("Set leaves %d", len(got))
	}
	if list := field.All(slices.Repeat(of("A", "1"), n), "a"); len(list) != n {
		t.Errorf("All gives %d", len(list))
	}
	if err := field.Check(f); err != api.ErrLarge {
		t.Errorf("Check: %v", err)
	}
}
