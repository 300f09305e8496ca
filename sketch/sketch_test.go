package sketch_test

import (
	"math"
	"math/rand"
	"slices"
	"strconv"
	"strings"
	"testing"

	"quayside/api"
	"quayside/samples"
	"quayside/sketch"
)

var widths = []int{16, 32, 64, 128, 256, 512, 1024, 2048, 4096}

// empty returns a new sketch with the width, which is valid.
func empty(t *testing.T, width int) *sketch.Sketch {
	t.Helper()
	k, err := sketch.New(width)
	if err != nil || k == nil {
		t.Fatalf("New(%d) = %v, %v", width, k, err)
	}
	return k
}

// addTimes adds the key n times.
func addTimes(k *sketch.Sketch, key string, n int) {
	for range n {
		k.Add(key)
	}
}

// checkEstimate checks what k estimates for the key.
func checkEstimate(t *testing.T, when string, k *sketch.Sketch, key string, want int) {
	t.Helper()
	if n := k.Estimate(key); n != want {
		t.Errorf("%s: Estimate(%.50q) = %d; want %d", when, key, n, want)
	}
}

func compareHash(t *testing.T, seed uint64, s string) {
	t.Helper()
	if got, want := sketch.Hash(seed, s), referenceHash(seed, s); got != want {
		t.Errorf("Hash(%d, %.50q) = %d; want %d", seed, s, got, want)
	}
}

// find returns a key whose places in a sketch of width 16 are wanted.
func find(t *testing.T, isWanted func(places [5]place) bool) string {
	t.Helper()
	for i := range 1 << 23 {
		key := "k" + strconv.Itoa(i)
		if isWanted(referencePlaces(16, key)) {
			return key
		}
	}
	t.Fatal("there is no such key")
	return ""
}

// shared returns the mask of the rows in which the places are the same.
func shared(a, b [5]place) int {
	mask := 0
	for row := range a {
		if a[row] == b[row] {
			mask += 1 << row
		}
	}
	return mask
}

// relative returns a key that shares, in a sketch of width 16, just the rows of
// the mask with the key.
func relative(t *testing.T, key string, mask int) string {
	t.Helper()
	places := referencePlaces(16, key)
	return find(t, func(other [5]place) bool { return shared(places, other) == mask })
}

// The masks of the four rows of counters, and of the doorkeeper.
const (
	allRows = 1<<doorkeeper - 1
	theBit  = 1 << doorkeeper
)

// relatives returns keys that share much and little with a, and a.
func relatives(t *testing.T) []string {
	t.Helper()
	list := []string{"a"}
	for _, mask := range []int{0, theBit, allRows, allRows + theBit, allRows - 1, 1 + theBit} {
		list = append(list, relative(t, "a", mask))
	}
	return list
}

func TestExamples(t *testing.T) { // P18.1
	for _, key := range []string{"a", "", "a.example/x", "\xff\x00"} {
		k := empty(t, 16)
		addTimes(k, key, 3)
		checkEstimate(t, "added three times", k, key, 3)
		for i := range 10000 {
			if n := k.Estimate(strconv.Itoa(i)); n > 3 {
				t.Errorf("after three times %q, Estimate(%d) = %d", key, i, n)
			}
		}
	}
}

func TestHash(t *testing.T) { // P18.1
	for _, c := range []struct {
		seed uint64
		s    string
		want uint64
	}{
		{0, "", 12161962214531383799},
		{0, "a", 16574479433630191766},
		{1, "a", 5952155468526724707},
		{4, "a", 10978381450042086051},
		{255, "a", 2320266832613995621},
		{256, "a", 14342095857596850688},
		{0, "\x00", 16574515717514505093},
		{0, "\x01", 16574514618002876726},
		{math.MaxUint64, "", 10157053720791519926},
		{0x0102030405060708, "key", 17863185411232622561},
		{1, "a.example/x", 1059011533076812724},
		{3, "\xff\x80\xc3\xa9", 9356018010365099314},
	} {
		if got := sketch.Hash(c.seed, c.s); got != c.want {
			t.Errorf("Hash(%d, %q) = %d; want %d", c.seed, c.s, got, c.want)
		}
		compareHash(t, c.seed, c.s)
	}
}

func TestHashOfManyTexts(t *testing.T) { // P18.1
	for shift := range 64 {
		for b := range 256 {
			seed := uint64(b) << shift
			compareHash(t, seed, "")
			compareHash(t, ^seed, "a")
			compareHash(t, seed-1, string([]byte{byte(b), byte(shift)}))
		}
	}
	for _, n := range samples.Around(0, 1<<31, 1<<32, 1<<40, 1<<56) {
		compareHash(t, uint64(n), "key")
	}
	samples.Edits("a.example/x", func(s string) { compareHash(t, 3, s) })
	samples.Strings(6, []string{"a", "\x00", "\xff", "\x80", "\u00e9"}, func(s string) { compareHash(t, 4, s) })
	for n := range 300 {
		compareHash(t, uint64(n), strings.Repeat("k", n))
	}
	compareHash(t, 1, strings.Repeat("ab\xff", 1<<16))
}

func TestNew(t *testing.T) { // P18.1
	check := func(width int) {
		k, err := sketch.New(width)
		if !slices.Contains(widths, width) {
			if k != nil || err != api.ErrRange {
				t.Errorf("New(%d) = %v, %v; want ErrRange", width, k, err)
			}
			return
		}
		if k == nil || err != nil {
			t.Fatalf("New(%d) = %v, %v", width, k, err)
		}
		if n := k.Added(); n != 0 {
			t.Errorf("a new sketch has %d calls", n)
		}
		for i := range 1000 {
			checkEstimate(t, "new", k, strconv.Itoa(i), 0)
		}
	}
	for width := -10000; width < 20000; width++ {
		check(width)
	}
	for shift := range 64 {
		for _, width := range samples.Around(1<<shift, -1<<shift) {
			check(width)
		}
	}
}

func TestAdd(t *testing.T) { // P18.1
	for _, width := range widths {
		k := empty(t, width)
		for n := range 8*width - 1 {
			checkEstimate(t, strconv.Itoa(n)+" times at width "+strconv.Itoa(width), k, "key", min(n, 16))
			if k.Added() != n {
				t.Errorf("Added = %d after %d calls", k.Added(), n)
			}
			k.Add("key")
		}
	}
}

// TestSharing adds two keys that share some of their places.
func TestSharing(t *testing.T) { // P18.1, P18.2
	for mask := range 32 {
		b := relative(t, "a", mask)
		sharesCounters, sharesBit := mask&allRows == allRows, mask&theBit != 0
		for n := range 20 {
			k := empty(t, 16)
			addTimes(k, "a", n)
			// The first time sets the bit only.
			ofA := min(max(n-1, 0), 15)
			seenA, seenB := min(n, 1), 0
			ofB := 0
			if sharesCounters {
				ofB = ofA
			}
			if sharesBit {
				seenB = seenA
			}
			for m := range 20 {
				when := strconv.Itoa(n) + " and " + strconv.Itoa(m) + " times, sharing " + strconv.Itoa(mask)
				checkEstimate(t, when, k, "a", ofA+seenA)
				checkEstimate(t, when, k, b, ofB+seenB)
				k.Add(b)
				ofB = min(ofB+seenB, 15)
				seenB = 1
				if sharesCounters {
					ofA = ofB
				}
				if sharesBit {
					seenA = 1
				}
			}
		}
	}
}

// TestConservativeUpdate adds a key that shares a greater counter with another.
func TestConservativeUpdate(t *testing.T) { // P18.1
	many := relative(t, "a", 0)
	ofA, ofMany := referencePlaces(16, "a"), referencePlaces(16, many)
	b := find(t, func(places [5]place) bool { return shared(places, ofA) == 1 && shared(places, ofMany) == 0 })
	ofB := referencePlaces(16, b)
	// It tells what the counter is that a and b share.
	probe := find(t, func(places [5]place) bool {
		return shared(places, ofA) == 1 && shared(places, ofB) == 1 && shared(places, ofMany) == allRows-1
	})
	k := empty(t, 16)
	addTimes(k, many, 12)
	checkEstimate(t, "without a", k, probe, 0)
	addTimes(k, "a", 5)
	checkEstimate(t, "with a", k, probe, 4)
	for n, want := range []int{4, 4, 4, 4, 4, 5, 6} {
		k.Add(b)
		checkEstimate(t, "with b", k, probe, want)
		checkEstimate(t, "with b", k, b, n+1)
		checkEstimate(t, "with b", k, "a", 5)
	}
}

func TestAging(t *testing.T) { // P18.1
	for _, width := range widths {
		k := empty(t, width)
		for round := range 3 {
			addTimes(k, "key", 8*width-1)
			checkEstimate(t, "before aging", k, "key", 16)
			k.Add("key")
			checkEstimate(t, "after aging", k, "key", 7)
			if k.Added() != 8*width*(round+1) {
				t.Errorf("Added = %d after round %d", k.Added(), round)
			}
		}
		for n := range 20 {
			checkEstimate(t, "again after aging", k, "key", min(7+n, 16))
			k.Add("key")
		}
	}
}

func TestAgingOfEachCount(t *testing.T) { // P18.1
	other := relative(t, "a", 0)
	for n := range 17 {
		k := empty(t, 16)
		addTimes(k, "a", n)
		addTimes(k, other, 8*16-1-n)
		checkEstimate(t, "before aging", k, "a", n)
		checkEstimate(t, "before aging", k, other, 16)
		k.Add(other)
		counter := max(n-1, 0) / 2
		checkEstimate(t, "after aging", k, "a", counter)
		checkEstimate(t, "after aging", k, other, 7)
		addTimes(k, "a", 2)
		checkEstimate(t, "again after aging", k, "a", counter+2)
		// Half, and a quarter, of what is not added any more is left.
		addTimes(k, other, 8*16-2)
		checkEstimate(t, "after the second aging", k, "a", (counter+1)/2)
		addTimes(k, other, 8*16)
		checkEstimate(t, "after the third aging", k, "a", (counter+1)/4)
	}
}

// TestAgingCall is about the call that the sketch ages after.
func TestAgingCall(t *testing.T) { // P18.1
	other := relative(t, "a", 0)
	k := empty(t, 16)
	addTimes(k, "a", 8*16-1)
	k.Add(other)
	checkEstimate(t, "added before the bits are cleared", k, other, 0)
	checkEstimate(t, "counted before the counters are halved", k, "a", 7)
	k.Add(other)
	checkEstimate(t, "added after aging", k, other, 1)
	addTimes(k, other, 2)
	checkEstimate(t, "counted after aging", k, other, 3)
	// The counter is raised from 5 to 6 before it is halved.
	k = empty(t, 16)
	addTimes(k, other, 8*16-7)
	addTimes(k, "a", 7)
	checkEstimate(t, "raised before the counters are halved", k, "a", 3)
}

func TestEstimateAndAdmitChangeNothing(t *testing.T) { // P18.1
	asked, k := empty(t, 16), empty(t, 16)
	for i := range 400 {
		key := strconv.Itoa(i % 7)
		for n := range 9 {
			asked.Estimate(strconv.Itoa(n))
			asked.Admit(strconv.Itoa(n), key)
			asked.Added()
		}
		asked.Add(key)
		k.Add(key)
		for n := range 9 {
			checkEstimate(t, "asked often", asked, strconv.Itoa(n), k.Estimate(strconv.Itoa(n)))
		}
		if asked.Added() != i+1 {
			t.Errorf("Added = %d after %d calls", asked.Added(), i+1)
		}
	}
}

func TestAdmit(t *testing.T) { // P18.1
	b := relative(t, "a", 0)
	twin := relative(t, "a", allRows+theBit)
	for n := range 20 {
		for m := range 20 {
			k := empty(t, 16)
			addTimes(k, "a", n)
			addTimes(k, b, m)
			for _, c := range []struct {
				candidate, victim string
				want              bool
			}{
				{"a", b, min(n, 16) > min(m, 16)},
				{b, "a", min(m, 16) > min(n, 16)},
				{"a", "a", false},
				{twin, "a", false},
				{"a", twin, false},
				{twin, b, min(n, 16) > min(m, 16)},
			} {
				if got := k.Admit(c.candidate, c.victim); got != c.want {
					t.Errorf("%d times a, %d times %s: Admit(%s, %s) = %t", n, m, b, c.candidate, c.victim, got)
				}
			}
		}
	}
}

func TestNilSketch(t *testing.T) { // P1, P18.1
	// A sketch that New did not make has no counters either.
	for _, k := range []*sketch.Sketch{nil, {}} {
		addTimes(k, "a", 3)
		checkEstimate(t, "without counters", k, "a", 0)
		if k.Added() != 0 || k.Admit("a", "b") || k.Admit("b", "a") {
			t.Errorf("a sketch without counters has %d calls", k.Added())
		}
	}
}

func TestSketchesAreIndependent(t *testing.T) { // P18.1
	k, other := empty(t, 16), empty(t, 16)
	addTimes(k, "a", 100)
	checkEstimate(t, "another sketch", other, "a", 0)
	if other.Added() != 0 {
		t.Errorf("another sketch has %d calls", other.Added())
	}
	addTimes(other, "a", 28)
	checkEstimate(t, "another sketch before its aging", other, "a", 16)
	checkEstimate(t, "before aging", k, "a", 16)
}

// pair is a sketch and what it is compared with.
type pair struct {
	sketch *sketch.Sketch
	want   *referenceSketch
}

func newPair(t *testing.T, width int) pair {
	t.Helper()
	return pair{empty(t, width), newReference(width)}
}

func (p pair) add(key string) {
	p.sketch.Add(key)
	p.want.add(key)
}

// compare checks what is said of the keys.
func (p pair) compare(t *testing.T, keys ...string) {
	t.Helper()
	if p.sketch.Added() != p.want.added {
		t.Errorf("Added = %d; want %d", p.sketch.Added(), p.want.added)
	}
	for i, key := range keys {
		want := p.want.estimate(key)
		checkEstimate(t, strconv.Itoa(p.want.added)+" calls", p.sketch, key, want)
		before := keys[max(i-1, 0)]
		if got := p.sketch.Admit(key, before); got != (want > p.want.estimate(before)) {
			t.Errorf("after %d calls, Admit(%.50q, %.50q) = %t", p.want.added, key, before, got)
		}
	}
}

func TestAllShortListsOfKeys(t *testing.T) { // P18.1
	keys := relatives(t)
	samples.Lists(4, keys, func(list []string) {
		p := newPair(t, 16)
		for _, key := range list {
			p.add(key)
		}
		p.compare(t, keys...)
	})
	// those around the first aging
	samples.Lists(3, keys, func(list []string) {
		p := newPair(t, 16)
		for i := range 126 {
			p.add(keys[i*i%len(keys)])
		}
		for _, key := range list {
			p.add(key)
			p.compare(t, keys...)
		}
	})
}

// randomKey returns one of n keys, the first ones more often.
func randomKey(random *rand.Rand, n int) string {
	return "k" + strconv.Itoa(random.Intn(1+random.Intn(n)))
}

func TestRandomKeys(t *testing.T) { // P18.1
	random := rand.New(rand.NewSource(1))
	for _, width := range widths {
		for range max(1, 512/width) {
			p := newPair(t, width)
			n := 1 + random.Intn(4*width)
			for range 8*width*3 + random.Intn(100) {
				key := randomKey(random, n)
				p.add(key)
				p.compare(t, key, randomKey(random, 2*n))
			}
			for i := range 2 * n {
				p.compare(t, "k"+strconv.Itoa(i))
			}
		}
	}
}

// counted is a sketch before its first aging, with how often each key was added,
// and what was estimated for it before.
type counted struct {
	sketch *sketch.Sketch
	times  map[string]int
	before map[string]int
}

func (c counted) add(key string) {
	c.sketch.Add(key)
	c.times[key]++
}

// keep checks P18.2 for all keys.
func (c counted) keep(t *testing.T) {
	t.Helper()
	for key, times := range c.times {
		n := c.sketch.Estimate(key)
		if n < min(times, 16) || n < c.before[key] {
			t.Errorf("after %d calls, of which %d were of %.50q, its estimate is %d, after %d", c.sketch.Added(), times, key, n, c.before[key])
		}
		c.before[key] = n
	}
}

func TestEstimateIsNeverTooLow(t *testing.T) { // P18.2
	random := rand.New(rand.NewSource(2))
	for _, width := range widths {
		for range 1 + 1024/width {
			c := counted{empty(t, width), map[string]int{}, map[string]int{}}
			n := 1 + random.Intn(4*width)
			for call := range 8*width - 1 {
				c.add(randomKey(random, n))
				if call%width == 0 || width < 64 {
					c.keep(t)
				}
			}
			c.keep(t)
		}
	}
	keys := relatives(t)
	for range 300 {
		c := counted{empty(t, 16), map[string]int{}, map[string]int{}}
		n := 1 + random.Intn(len(keys))
		for range 8*16 - 1 {
			c.add(keys[random.Intn(n)])
			c.keep(t)
		}
	}
}

func TestLongKeys(t *testing.T) { // P1, P18.1
	long := strings.Repeat("a", 1<<17)
	p := newPair(t, 64)
	for _, key := range []string{long, long + "b", long[1:], long, strings.Repeat("\x00", 1<<17), long, strings.Repeat("\xff\xfe", 1<<16), ""} {
		p.add(key)
		p.compare(t, key, long)
	}
}

func FuzzHashes(f *testing.F) { // P18.1
	f.Add(uint64(0), "")
	f.Add(uint64(1<<63|255), "a\x00\xff")
	f.Fuzz(func(t *testing.T, seed uint64, s string) {
		compareHash(t, seed, s)
	})
}

func FuzzSketches(f *testing.F) { // P18.1, P18.2
	f.Add(uint8(0), "abc", "a")
	f.Add(uint8(1), strings.Repeat("ab", 128)+"c", "bc")
	f.Add(uint8(8), "\x00\x01\x00\x00", "")
	f.Fuzz(func(t *testing.T, shift uint8, calls, more string) {
		p := newPair(t, widths[int(shift)%len(widths)])
		c := counted{empty(t, p.want.width), map[string]int{}, map[string]int{}}
		for i := range len(calls) {
			keys := []string{calls[i : i+1], calls[i:min(len(calls), i+2)], more}
			key := keys[int(calls[i])%3]
			p.add(key)
			p.compare(t, keys...)
			if i < 8*p.want.width-1 {
				c.add(key)
			}
			// After each call this would take too long for long inputs.
			if i < 64 || i%64 == 0 {
				c.keep(t)
			}
		}
		c.keep(t)
	})
}
