package table_test

import (
	"fmt"
	"maps"
	"slices"
	"testing"

	"tallboy/api"
	"tallboy/hash"
	"tallboy/table"
)

// bits are all of a hash, and those that are none.
func bits() []int {
	l := slices.Clone(noBits)
	for bit := range 64 {
		l = append(l, bit)
	}
	return l
}

// parted are the keys whose hash has 0 as that bit, and those whose hash has 1, by the chapter's words.
func parted(seed uint64, m map[string]int, bit int) (map[string]int, map[string]int) {
	zeros, ones := map[string]int{}, map[string]int{}
	for k, v := range m {
		if bit >= 0 && bit <= 63 && hash.Of(seed, k)>>uint(bit)%2 == 1 {
			ones[k] = v
		} else {
			zeros[k] = v
		}
	}
	return zeros, ones
}

// wantSplit asks for the parts of a table that has m, which stays as it was.
func wantSplit(t *testing.T, seed uint64, x *table.Table[int], m map[string]int, bit int) (*table.Table[int], *table.Table[int]) {
	t.Helper()
	keys := slices.Sorted(maps.Keys(m))
	was := told(x, keys)
	a, b := x.Split(bit)
	if a == nil || b == nil || a == b || a == x || b == x {
		t.Fatalf("P8.3: Split(%d): no two new tables", bit)
	}
	zeros, ones := parted(seed, m, bit)
	wantAll(t, a, zeros)
	wantAll(t, b, ones)
	wantSame(t, x, keys, was)
	return a, b
}

// P8.3: by each bit, and by numbers that are none: of nothing, of one key, of some, of Room, and of a table with marks.
func TestSplit(t *testing.T) {
	for _, seed := range seeds {
		for _, keys := range [][]string{nil, {""}, numbered(1), numbered(7), numbered(8), numbered(60), numbered(api.Room), zeros(api.Room), odd()[:api.Room]} {
			x, m := filled(t, seed, keys)
			for _, bit := range bits() {
				wantSplit(t, seed, x, m, bit)
			}
			wantAll(t, x, m)
		}
		x, m := marked(t, seed)
		for _, bit := range bits() {
			wantSplit(t, seed, x, m, bit)
		}
		wantAll(t, x, m)
	}
}

// P8.3: the bits at both ends and about the middle, by hashes that are written out.
func TestSplitByNumbers(t *testing.T) {
	const h = 0x82b19d9859a61322 // of "a" by seed 0
	for bit := range 64 {
		x, m := filled(t, 0, []string{"a"})
		a, b := x.Split(bit)
		if uint64(h)>>bit&1 == 1 {
			a, b = b, a
		}
		wantAll(t, a, m)
		wantAll(t, b, map[string]int{})
	}
}

// P8.3: of a bit that a hash has not, all are in the first part.
func TestSplitByNoBit(t *testing.T) {
	for _, seed := range seeds {
		for _, bit := range noBits {
			x, m := filled(t, seed, numbered(api.Room))
			a, b := x.Split(bit)
			wantAll(t, a, m)
			wantAll(t, b, map[string]int{})
			wantAll(t, x, m)
		}
	}
}

// P8.3: all in one part, of a full table: that part is full too, and the other one has room for as many.
func TestSplitToOneSide(t *testing.T) {
	for _, seed := range seeds {
		for bit := range 64 {
			for is := range uint64(2) {
				x, m := filled(t, seed, withBit(seed, bit, api.Room, is))
				a, b := wantSplit(t, seed, x, m, bit)
				if is == 1 {
					a, b = b, a
				}
				wantAll(t, a, m)
				wantPut(t, a, "more", 1, api.ErrFull)
				wantAll(t, b, map[string]int{})
				wantPut(t, b, "more", 1, api.OK)
				wantAll(t, x, m)
			}
		}
	}
}

// change takes all keys of a table away but the last, lets that one have another value, and fills the table with others.
func change(t *testing.T, x *table.Table[int], m map[string]int, name string) map[string]int {
	t.Helper()
	is := maps.Clone(m)
	keys := slices.Sorted(maps.Keys(m))
	for i, k := range keys {
		if i < len(keys)-1 {
			wantDelete(t, x, k, true)
			delete(is, k)
		} else {
			wantPut(t, x, k, -77, api.OK)
			is[k] = -77
		}
	}
	for i := 0; len(is) < api.Room; i++ {
		k := fmt.Sprint(name, i)
		wantPut(t, x, k, i, api.OK)
		is[k] = i
	}
	wantPut(t, x, "one more", 1, api.ErrFull)
	wantAll(t, x, is)
	return is
}

// P8.3: the parts and the table are by themselves, whichever is changed.
func TestPartsByThemselves(t *testing.T) {
	for _, seed := range seeds {
		for _, bit := range []int{-1, 0, 1, 15, 16, 31, 32, 57, 63, 64} {
			for _, n := range []int{0, 1, 9, 70, api.Room} {
				x, m := filled(t, seed, numbered(n))
				a, b := wantSplit(t, seed, x, m, bit)
				zeros, ones := parted(seed, m, bit)
				zeros = change(t, a, zeros, "first")
				wantAll(t, b, ones)
				wantAll(t, x, m)
				ones = change(t, b, ones, "second")
				wantAll(t, a, zeros)
				wantAll(t, x, m)
				m = change(t, x, m, "table")
				wantAll(t, a, zeros)
				wantAll(t, b, ones)
			}
		}
	}
}

// P8.3: both parts have the table's seed: what is put into them later, and then split by other bits, goes by it.
func TestPartsSeed(t *testing.T) {
	for _, seed := range seeds {
		for _, first := range []int{-1, 0, 5, 63, 64} {
			x, m := filled(t, seed, numbered(40))
			a, b := wantSplit(t, seed, x, m, first)
			zeros, ones := parted(seed, m, first)
			for i, k := range odd()[:50] {
				wantPut(t, a, k, i, api.OK)
				wantPut(t, b, k, -i, api.OK)
				zeros[k], ones[k] = i, -i
			}
			for _, bit := range bits() {
				wantSplit(t, seed, a, zeros, bit)
				wantSplit(t, seed, b, ones, bit)
			}
		}
	}
}

// P8.3: parts of parts, by one bit behind the other, have each key once.
func TestPartsOfParts(t *testing.T) {
	for _, seed := range seeds {
		x, m := filled(t, seed, numbered(api.Room))
		level := []*table.Table[int]{x}
		for bit := range 8 {
			var next []*table.Table[int]
			for _, y := range level {
				a, b := y.Split(bit)
				next = append(next, a, b)
			}
			level = next
		}
		n := 0
		for i, y := range level {
			for _, k := range y.Keys() {
				v, ok := y.Get(k)
				if want, there := m[k]; !ok || !there || v != want {
					t.Fatalf("P8.3: part %d: Get(%q): %d, %t", i, k, v, ok)
				}
				delete(m, k)
				n++
			}
			wantShape(t, y, len(y.Keys()))
		}
		if n != api.Room || len(m) != 0 {
			t.Errorf("P8.3: parts of parts: %d keys, %d not told", n, len(m))
		}
	}
}

// P8.3: values of another type go along.
func TestSplitValues(t *testing.T) {
	x := table.New[[]string](2)
	for _, k := range numbered(30) {
		x.Put(k, []string{k, "v"})
	}
	a, b := x.Split(3)
	for _, k := range numbered(30) {
		here, there := a, b
		if hash.Of(2, k)>>3&1 == 1 {
			here, there = b, a
		}
		if v, ok := here.Get(k); !ok || !slices.Equal(v, []string{k, "v"}) {
			t.Errorf("P8.3: Get(%q): %q, %t", k, v, ok)
		}
		if v, ok := there.Get(k); ok || v != nil {
			t.Errorf("P8.3: Get(%q) of the other part: %q, %t", k, v, ok)
		}
	}
}
