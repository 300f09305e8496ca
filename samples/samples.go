// Package samples makes inputs for the tests of the other packages. It is no
// layer, and no layer imports it.
package samples

import (
	"math"
	"slices"

	"quayside/clock"
	"quayside/field"
)

// The date of the document's examples, one that is a minute later, one that is
// 1000 seconds sooner, and the first and the last date that there are.
const (
	Date      = "Sun, 06 Nov 1994 08:49:37 GMT"
	Later     = "Sun, 06 Nov 1994 08:50:37 GMT"
	Sooner    = "Sun, 06 Nov 1994 08:32:57 GMT"
	FirstDate = "Thu, 01 Jan 1970 00:00:00 GMT"
	LastDate  = "Fri, 31 Dec 9999 23:59:59 GMT"
)

// Fields returns the fields with the names and values given in turn.
func Fields(texts ...string) field.Fields {
	var f field.Fields
	for i := 0; i+1 < len(texts); i += 2 {
		f = append(f, field.Field{Name: texts[i], Value: texts[i+1]})
	}
	return f
}

// Strings calls use with every string of at most n of the parts.
func Strings(n int, parts []string, use func(s string)) {
	extend("", n, parts, use)
}

// extend calls use with s and with s followed by at most n of the parts.
func extend(s string, n int, parts []string, use func(s string)) {
	use(s)
	if n <= 0 {
		return
	}
	for _, part := range parts {
		extend(s+part, n-1, parts, use)
	}
}

// Lists calls use with every list of at most n of the items.
func Lists[S ~[]E, E any](n int, items S, use func(list S)) {
	lengthen(nil, n, items, use)
}

// lengthen calls use with the list and with it followed by at most n of the items.
func lengthen[S ~[]E, E any](list S, n int, items S, use func(list S)) {
	use(slices.Clone(list))
	if n <= 0 {
		return
	}
	for _, item := range items {
		lengthen(append(slices.Clip(list), item), n-1, items, use)
	}
}

// Subsets calls use with every subset of the texts, in order.
func Subsets(texts []string, use func(list []string)) {
	for chosen := range 1 << len(texts) {
		var list []string
		for i, text := range texts {
			if chosen>>i&1 != 0 {
				list = append(list, text)
			}
		}
		use(list)
	}
}

// Edits calls use with s and with every string that one byte more, one byte
// less or another byte makes of it.
func Edits(s string, use func(s string)) {
	use(s)
	for at := range len(s) + 1 {
		for c := range 256 {
			use(s[:at] + string([]byte{byte(c)}) + s[at:])
		}
	}
	for at := range len(s) {
		use(s[:at] + s[at+1:])
		for c := range 256 {
			use(s[:at] + string([]byte{byte(c)}) + s[at+1:])
		}
	}
}

// Bytewise returns the bytes of s, each alone.
func Bytewise(s string) []string {
	var parts []string
	for i := range len(s) {
		parts = append(parts, s[i:i+1])
	}
	return parts
}

// Around returns each of the numbers with its neighbours, and the ends of an int.
func Around(numbers ...int) []int {
	list := []int{math.MinInt, math.MinInt + 1, math.MinInt / 2, math.MaxInt / 2, math.MaxInt - 1, math.MaxInt}
	for _, n := range numbers {
		list = append(list, n-1, n, n+1)
	}
	return list
}

// Clocks returns the slowest, an exact, and the fastest clock within ppm, a
// multiple of 100. They are set to different readings.
func Clocks(ppm int) []clock.Clock {
	const parts = 10000
	return []clock.Clock{
		{Offset: 3, Num: parts - ppm/100, Den: parts},
		{Num: 1, Den: 1},
		{Offset: 70000, Num: parts + ppm/100, Den: parts},
	}
}

// Reading returns what the clock shows at the true time. Both are valid.
func Reading(c clock.Clock, at int) int {
	n, err := clock.Read(c, at)
	if err != nil {
		panic(err)
	}
	return n
}

// Random chooses numbers from 0 to n-1, as a *rand.Rand does. (This package has
// no random source of its own, since it is no test.)
type Random interface {
	Intn(n int) int
}

// Some returns one of the texts.
func Some(random Random, texts ...string) string {
	return texts[random.Intn(len(texts))]
}

// Spoil returns s, which is not empty, with some bytes left out, or put in, or
// changed. What is put in is one of the texts, which are not empty.
func Spoil(random Random, s string, texts ...string) string {
	b := []byte(s)
	for range random.Intn(3) {
		at := random.Intn(len(b))
		put := []byte(Some(random, texts...))
		b = slices.Replace(b, at, at+random.Intn(2), put...)
	}
	return string(b)
}

// Cuts returns parts that make s, of which some are empty.
func Cuts(random Random, s string) []string {
	var parts []string
	for s != "" {
		n := random.Intn(min(len(s), 1+random.Intn(40)) + 1)
		parts = append(parts, s[:n])
		s = s[n:]
	}
	return parts
}
