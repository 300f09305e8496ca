package directive_test

import (
	"fmt"
	"math"
	"math/big"
	"regexp"
	"slices"
	"strings"

	"quayside/directive"
	"quayside/field"
)

// The functions of this file say the same as chapter 11 in another way: by
// regular expressions, by looking for one directive after the other among all
// elements, by numbers of any size, and by asking of two items which one is the
// more careful, so that the tests can compare the package with them. They need
// not be fast.

type directives = directive.Directives

// most is the greatest normal time.
const most = 2147483647

// flags returns the places of the flags of d, in the order of the table.
func flags(d *directives) []*bool {
	return []*bool{&d.NoStore, &d.NoCache, &d.Private, &d.Public, &d.MustRevalidate, &d.OnlyIfCached}
}

// publicFlag is the place of Public among the flags.
const publicFlag = 3

// times returns the places of the times of d, in the order of the table.
func times(d *directives) []*int {
	return []*int{&d.MaxAge, &d.SharedAge, &d.WhileStale, &d.OnError, &d.MaxStale, &d.MinFresh}
}

// flagRows are the names of the flags, in the order of the table.
var flagRows = [][]string{{"no-store"}, {"no-cache"}, {"private"}, {"public"}, {"must-revalidate", "proxy-revalidate"}, {"only-if-cached"}}

type timeRow struct {
	name              string
	noNumber, missing int
	greatest          bool
}

// timeRows are the directives with times, in the order of the table.
var timeRows = []timeRow{
	{"max-age", 0, 0, false},
	{"s-maxage", 0, 0, false},
	{"stale-while-revalidate", 0, 0, false},
	{"stale-if-error", 0, 0, false},
	{"max-stale", 0, most, false},
	{"min-fresh", most, most, true},
}

const (
	other   = `[^\x00-\x08\x0a-\x1f\x7f"\\]`
	escaped = `\\[^\x00-\x08\x0a-\x1f\x7f]`
	quoted  = `"(?:` + other + `|` + escaped + `)*"`
)

var (
	fieldPattern   = regexp.MustCompile(`\A` + anyCase("cache-control") + `\z`)
	listPattern    = regexp.MustCompile(`\A(?:` + other + `|\\|` + quoted + `)*\z`)
	elementPattern = regexp.MustCompile(`(?:[^",]|` + quoted + `)+`)
	numberPattern  = regexp.MustCompile(`\A=(?:[0-9]+|"(?:\\?[0-9])+")\z`)
	digitPattern   = regexp.MustCompile(`[0-9]`)
	namePatterns   = compileNames()
)

// anyCase returns a pattern for the name in any case. (The flag for this would
// also permit letters that Unicode has beside those of ASCII.)
func anyCase(name string) string {
	pattern := ""
	for _, c := range name {
		pattern += "[" + strings.ToUpper(string(c)) + string(c) + "]"
	}
	return strings.ReplaceAll(pattern, "[--]", "-")
}

func compileNames() map[string]*regexp.Regexp {
	patterns := map[string]*regexp.Regexp{}
	add := func(name string) {
		patterns[name] = regexp.MustCompile(`(?s)\A` + anyCase(name) + `(=.*)?\z`)
	}
	for _, names := range flagRows {
		for _, name := range names {
			add(name)
		}
	}
	for _, row := range timeRows {
		add(row.name)
	}
	return patterns
}

// referenceElements returns the elements of the values of the fields, and
// whether there is a value that is no list.
func referenceElements(f field.Fields) (list []string, refused bool) {
	for _, x := range f {
		switch {
		case !fieldPattern.MatchString(x.Name):
		case listPattern.MatchString(x.Value):
			for _, part := range elementPattern.FindAllString(x.Value, -1) {
				list = append(list, strings.Trim(part, " \t"))
			}
		default:
			refused = true
		}
	}
	return list, refused
}

// arguments returns, for each of the elements that has the name, what follows
// it: nothing, or an = and an argument.
func arguments(elements []string, name string) []string {
	var list []string
	for _, element := range elements {
		if m := namePatterns[name].FindStringSubmatch(element); m != nil {
			list = append(list, m[1])
		}
	}
	return list
}

// time returns the time that one argument stands for.
func (row timeRow) time(argument string) int {
	switch {
	case argument == "":
		return row.missing
	case !numberPattern.MatchString(argument):
		return row.noNumber
	}
	n := new(big.Int)
	n.SetString(strings.Join(digitPattern.FindAllString(argument, -1), ""), 10)
	if n.Cmp(big.NewInt(most)) > 0 {
		return most
	}
	return int(n.Int64())
}

// of returns the time that several arguments stand for.
func (row timeRow) of(arguments []string) int {
	var list []int
	for _, argument := range arguments {
		list = append(list, row.time(argument))
	}
	switch {
	case len(list) == 0:
		return -1
	case row.greatest:
		return slices.Max(list)
	}
	return slices.Min(list)
}

func referenceParse(f field.Fields) directives {
	elements, refused := referenceElements(f)
	d := directives{NoStore: refused}
	for i, names := range flagRows {
		for _, name := range names {
			if len(arguments(elements, name)) > 0 {
				*flags(&d)[i] = true
			}
		}
	}
	for i, row := range timeRows {
		*times(&d)[i] = row.of(arguments(elements, row.name))
	}
	return d
}

func referenceNormal(d directives) directives {
	for _, n := range times(&d) {
		if *n < 0 {
			*n = -1
		} else if *n > most {
			*n = most
		}
	}
	return d
}

func referenceFormat(d directives) string {
	d = referenceNormal(d)
	text := ""
	for i, there := range flags(&d) {
		if *there {
			text += ", " + flagRows[i][0]
		}
	}
	for i, n := range times(&d) {
		text += fmt.Sprintf(", %s=%d", timeRows[i].name, *n)
	}
	text = regexp.MustCompile(`, [a-z-]*=-1`).ReplaceAllString(text, "")
	text = strings.Replace(text, "max-stale=2147483647", "max-stale", 1)
	return strings.TrimPrefix(text, ", ")
}

// careless tells how careless each of the times is: the greater the number,
// the more is stored or served without asking.
var careless = []func(n int) int{fromLifetime, fromLifetime, fromAllowance, fromAllowance, fromAllowance, fromMargin}

// fromLifetime: without a lifetime, other rules may find any.
func fromLifetime(n int) int {
	if n == -1 {
		return math.MaxInt
	}
	return n
}

func fromAllowance(n int) int { return n }

func fromMargin(n int) int { return -n }

func referenceMerge(a, b directives) directives {
	a, b = referenceNormal(a), referenceNormal(b)
	for i, there := range flags(&a) {
		if *there != *flags(&b)[i] {
			*there = i != publicFlag
		}
	}
	for i, n := range times(&a) {
		if m := *times(&b)[i]; careless[i](m) < careless[i](*n) {
			*n = m
		}
	}
	return a
}
