package sketch_test

import (
	"encoding/binary"
	"hash/fnv"
)

// The functions of this file say the same as chapter 18 in another way: by Go's
// own FNV-1a, and by one table of counters, of which those that are not there are
// 0, and of which the bits are those that stop at 1. The tests compare the package
// with them. They need not be fast.

func referenceHash(seed uint64, s string) uint64 {
	h := fnv.New64a()
	h.Write(binary.LittleEndian.AppendUint64(nil, seed))
	h.Write([]byte(s))
	sum := h.Sum64()
	high, low := sum>>32, sum&0xffffffff
	return high<<32 + (high ^ low)
}

// doorkeeper is the row of the bits.
const doorkeeper = 4

// place is where a counter is.
type place struct{ row, index int }

// referencePlaces returns where the counters and the bit of the key are.
func referencePlaces(width int, key string) [5]place {
	var list [5]place
	for row := range list {
		list[row] = place{row, int(referenceHash(uint64(row), key) & uint64(width-1))}
	}
	return list
}

type referenceSketch struct {
	width    int
	counters map[place]int
	added    int
	untilOld int // the calls of add before the next aging
}

func newReference(width int) *referenceSketch {
	return &referenceSketch{width: width, counters: map[place]int{}, untilOld: 8 * width}
}

func (s *referenceSketch) add(key string) {
	places := referencePlaces(s.width, key)
	bit := places[doorkeeper]
	if s.counters[bit] > 0 {
		n := min(s.least(key)+1, 15)
		for _, p := range places[:doorkeeper] {
			s.counters[p] = max(s.counters[p], n)
		}
	}
	s.counters[bit] = 1
	s.added++
	s.untilOld--
	if s.untilOld == 0 {
		s.untilOld = 8 * s.width
		for p, n := range s.counters {
			s.counters[p] = n >> 1
		}
	}
}

// least returns the minimum of the key's four counters.
func (s *referenceSketch) least(key string) int {
	n := 15
	places := referencePlaces(s.width, key)
	for _, p := range places[:doorkeeper] {
		n = min(n, s.counters[p])
	}
	return n
}

func (s *referenceSketch) estimate(key string) int {
	return s.least(key) + s.counters[referencePlaces(s.width, key)[doorkeeper]]
}
