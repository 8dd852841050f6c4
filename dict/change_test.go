package dict_test

import (
	"errors"
	"fmt"
	"math/rand"
	"runtime"
	"slices"
	"strings"
	"testing"
	"weak"

	"tallboy/api"
	"tallboy/dict"
)

// P10.1, P10.2, P10.3: a dict with nothing; the chapter's run and its examples.
func TestNew(t *testing.T) {
	for _, seed := range seeds {
		d := dict.New[int](seed)
		wantNothing(t, d, newModel(seed))
		for _, k := range odd() {
			wantGet(t, d, k, 0, false)
			wantDelete(t, d, k, false)
		}
		wantNothing(t, d, newModel(seed))
		if d.Depth() != 0 || d.Tables() != 1 {
			t.Errorf("P10.1: New: Depth %d, Tables %d", d.Depth(), d.Tables())
		}
	}
}

// wantNothing is a dict without keys, of whatever depth.
func wantNothing(t *testing.T, d *dict.Dict[int], m *model) {
	t.Helper()
	wantAll(t, d, m)
	for _, c := range []uint64{0, 1, 5, 1 << 15, 1 << 16, 1 << 63, greatest} {
		if l := d.Bucket(c); len(l) != 0 {
			t.Errorf("P10.2: Bucket(%d) of nothing: %q", c, l)
		}
		if k, ok := d.Pick(c); k != "" || ok {
			t.Errorf("P10.3: Pick(%d) of nothing: %q, %t", c, k, ok)
		}
		for _, count := range counts {
			if l, next := d.Scan(c, count); len(l) != 0 || m.depth == 0 && next != 0 {
				t.Errorf("P10.2: Scan(%d, %d) of nothing: %q, %d", c, count, l, next)
			}
		}
	}
}

// P10.1: keys are texts of any bytes, and only the same bytes are the same key.
func TestOddKeys(t *testing.T) {
	for _, seed := range seeds {
		d, m := dict.New[int](seed), newModel(seed)
		keys := odd()
		for n, k := range keys {
			wantGet(t, d, k, 0, false)
			wantPut(t, d, k, n)
			m.put(k, n)
			wantGet(t, d, k, n, true)
			wantShape(t, d, m)
		}
		wantAll(t, d, m)
		wantBuckets(t, d, m)
		for _, k := range keys {
			wantDelete(t, d, k, true)
			m.delete(k)
			wantGet(t, d, k, 0, false)
			wantDelete(t, d, k, false)
		}
		wantNothing(t, d, m)
	}
}

// P10.1, R4: a key is its bytes, wherever they lie; what becomes of them later is nothing to the dict.
func TestKeysByBytes(t *testing.T) {
	d := dict.New[int](3)
	b := []byte("some key")
	wantPut(t, d, string(b[5:]), 1)
	copy(b, "********")
	wantGet(t, d, "key", 1, true)
	wantGet(t, d, "***", 0, false)
	wantPut(t, d, strings.Join([]string{"k", "ey"}, ""), 2)
	wantGet(t, d, "key", 2, true)
	if d.Len() != 1 {
		t.Errorf("P10.1: Len: %d", d.Len())
	}
}

// P10.1: at every step from nothing on, the Room-th key and the one behind it among them, Depth and Tables are as the chapter tells them.
func TestEveryStep(t *testing.T) {
	for _, seed := range seeds {
		d, m := dict.New[int](seed), newModel(seed)
		for n, k := range numbered(3300) {
			wantPut(t, d, k, n)
			m.put(k, n)
			wantShape(t, d, m)
			if n < 112 && (d.Depth() != 0 || d.Tables() != 1) || n == 112 && (d.Depth() != 1 || d.Tables() != 2) {
				t.Fatalf("P10.1: %d keys: Depth %d, Tables %d", n+1, d.Depth(), d.Tables())
			}
			if n%50 == 0 || n >= 110 && n <= 115 {
				wantAll(t, d, m)
			}
		}
		if len(m.tables) == 1<<m.depth {
			t.Errorf("seed %d: no tables of unlike own depths", seed)
		}
		wantAll(t, d, m)
		wantBuckets(t, d, m)
	}
}

// P10.1: a full table from which a key went has room for another one, and is split by the next.
func TestRoomAgain(t *testing.T) {
	for _, seed := range seeds {
		d, m := filled(t, seed, numbered(api.Room))
		for n := range 300 {
			k := fmt.Sprint("other", n)
			wantDelete(t, d, numbered(api.Room)[0], n == 0)
			m.delete(numbered(api.Room)[0])
			wantPut(t, d, k, n)
			m.put(k, n)
			if d.Tables() != 1 || d.Depth() != 0 {
				t.Fatalf("P10.1: a split among %d", d.Len())
			}
			wantShape(t, d, m)
			wantPut(t, d, k, n)
			wantDelete(t, d, k, true)
			m.delete(k)
		}
		wantPut(t, d, "one", 1)
		m.put("one", 1)
		wantShape(t, d, m)
		wantPut(t, d, "more", 1)
		m.put("more", 1)
		if d.Tables() != 2 || d.Depth() != 1 {
			t.Fatalf("P10.1: no split among %d", d.Len())
		}
		wantAll(t, d, m)
	}
}

// P10.1: a key that is put again has the new value, and nothing else is turned: in full tables, split ones, and such as stand behind another one.
func TestPutAgain(t *testing.T) {
	lists := [][]string{numbered(1), numbered(api.Room - 1), numbered(api.Room), numbered(api.Room + 1), numbered(1000), zeros(api.Room), zeros(api.Room + 1), zeros(2*api.Room + 1)}
	for _, seed := range []uint64{0, begin, greatest} {
		for _, keys := range lists {
			d, m := filled(t, seed, keys)
			order := d.Keys()
			for n, k := range keys {
				for _, v := range []int{-n, 0, 1000 + n} {
					wantPut(t, d, k, v)
					m.put(k, v)
					wantGet(t, d, k, v, true)
				}
				wantShape(t, d, m)
			}
			wantAll(t, d, m)
			if !slices.Equal(d.Keys(), order) {
				t.Error("R4: a key that is put again turns the order of Keys")
			}
		}
	}
}

// P10.1: each full table under a directory takes its keys again without a split.
func TestPutAgainWhereFull(t *testing.T) {
	for _, seed := range seeds {
		d, m := filled(t, seed, numbered(1500))
		full := 0
		for p := range m.tables {
			for n := 0; len(m.tables[p]) < api.Room; n++ {
				k := fmt.Sprint("fill", n)
				if m.where(k) == p {
					wantPut(t, d, k, n)
					m.put(k, n)
				}
			}
			full++
		}
		wantAll(t, d, m)
		for k := range m.all() {
			wantPut(t, d, k, 5)
			m.put(k, 5)
		}
		wantAll(t, d, m)
		if d.Len() != full*api.Room || d.Tables() != full {
			t.Errorf("P10.1: %d keys in %d tables, want %d full ones", d.Len(), d.Tables(), full)
		}
	}
}

// P10.1: one Put splits again and again, until the key's table has room: of the Room keys that are there each has one bit more than the new one alike.
func TestDeepens(t *testing.T) {
	for _, seed := range []uint64{0, greatest} {
		for same := range api.MaxDepth {
			low := 0x9d3c & (uint64(1)<<(same+1) - 1)
			d, m := filled(t, seed, alike(seed, same+1, low, api.Room))
			if d.Depth() != 0 || d.Tables() != 1 {
				t.Fatalf("P10.1: Depth %d, Tables %d of Room keys", d.Depth(), d.Tables())
			}
			k := alike(seed, same+1, low^1<<same, 1)[0]
			wantPut(t, d, k, -1)
			m.put(k, -1)
			wantAll(t, d, m)
			if d.Depth() != same+1 || d.Tables() != same+2 {
				t.Errorf("P10.1: %d bits alike: Depth %d, Tables %d", same, d.Depth(), d.Tables())
			}
			wantBuckets(t, d, m)
		}
	}
}

// P10.1: tables of own depths from 1 on to MaxDepth under one directory, filled in turn.
func TestUnlikeDepths(t *testing.T) {
	for _, seed := range []uint64{0, greatest} {
		d, m := dict.New[int](seed), newModel(seed)
		var keys []string
		for _, own := range []int{1, 3, 4, 7, 9, 12, 15, 16} {
			keys = append(keys, alike(seed, own, 1<<(own-1), 130)...)
		}
		r := rand.New(rand.NewSource(3))
		r.Shuffle(len(keys), func(i, j int) { keys[i], keys[j] = keys[j], keys[i] })
		for n, k := range keys {
			wantPut(t, d, k, n)
			m.put(k, n)
			wantShape(t, d, m)
		}
		if m.depth != api.MaxDepth || len(m.tables) > 60 {
			t.Fatalf("the keys make %d tables of depth %d", len(m.tables), m.depth)
		}
		wantAll(t, d, m)
		wantBuckets(t, d, m)
		for range 3000 {
			play(t, r, d, m, keys, 5)
		}
		wantAll(t, d, m)
	}
}

// crowds are keys of which all have the same MaxDepth lowest bits of their hash: some the whole hash.
func crowds(n int) map[uint64][]string {
	return map[uint64][]string{
		0:        alike(0, api.MaxDepth, 0, n),
		5:        alike(5, api.MaxDepth, 0x8001, n),
		begin:    zeros(n),
		greatest: alike(greatest, api.MaxDepth, 0xffff, n),
	}
}

// P10.1: more than twice Room keys with the same MaxDepth lowest bits: each is found, told once, deleted and put again, in any order.
func TestCrowds(t *testing.T) {
	for seed, keys := range crowds(2*api.Room + 30) {
		d, m := dict.New[int](seed), newModel(seed)
		for n, k := range keys {
			wantGet(t, d, k, 0, false)
			wantPut(t, d, k, n)
			m.put(k, n)
			wantShape(t, d, m)
			if n >= api.Room && (d.Depth() != 16 || d.Tables() != 17) {
				t.Fatalf("P10.1: %d keys alike: Depth %d, Tables %d", n+1, d.Depth(), d.Tables())
			}
			if n == api.Room || n == api.Room+1 || n == 2*api.Room {
				wantAll(t, d, m)
			}
		}
		wantAll(t, d, m)
		wantBuckets(t, d, m)
		wantEachGoes(t, d, m, keys)
		slices.Reverse(keys)
		wantEachGoes(t, d, m, keys)
		rand.New(rand.NewSource(1)).Shuffle(len(keys), func(i, j int) { keys[i], keys[j] = keys[j], keys[i] })
		wantEachGoes(t, d, m, keys)
	}
}

// wantEachGoes deletes each key and puts it again, then deletes them all, and puts them all again.
func wantEachGoes(t *testing.T, d *dict.Dict[int], m *model, keys []string) {
	t.Helper()
	for n, k := range keys {
		wantDelete(t, d, k, true)
		wantDelete(t, d, k, false)
		wantGet(t, d, k, 0, false)
		wantPut(t, d, k, -n)
		m.put(k, -n)
		wantGet(t, d, k, -n, true)
		wantShape(t, d, m)
	}
	wantAll(t, d, m)
	for n, k := range keys {
		wantDelete(t, d, k, true)
		m.delete(k)
		wantShape(t, d, m)
		if n%20 == 0 {
			wantAll(t, d, m)
		}
	}
	wantNothing(t, d, m)
	for n, k := range keys {
		wantPut(t, d, k, n)
		m.put(k, n)
	}
	wantAll(t, d, m)
}

// P10.1: where a table has room again, a key that stands behind it is still the one that is put again.
func TestBehindAnother(t *testing.T) {
	for seed, keys := range crowds(2*api.Room + 5) {
		d, m := filled(t, seed, keys)
		for _, gone := range []int{0, 50, 111, 112, 113, 150, 223, 224} {
			wantDelete(t, d, keys[gone], true)
			m.delete(keys[gone])
		}
		wantAll(t, d, m)
		for n, k := range keys {
			if _, there := m.get(k); !there {
				continue
			}
			wantPut(t, d, k, 3*n)
			m.put(k, 3*n)
			wantShape(t, d, m)
			wantGet(t, d, k, 3*n, true)
		}
		wantAll(t, d, m)
		for _, k := range keys {
			_, there := m.get(k)
			wantDelete(t, d, k, there)
			m.delete(k)
			wantGet(t, d, k, 0, false)
		}
		wantNothing(t, d, m)
	}
}

// P10.1: Get and Delete of what was never there, of what was deleted, and of what was put again behind that.
func TestGone(t *testing.T) {
	for _, seed := range seeds {
		d, m := filled(t, seed, numbered(900))
		for n, k := range numbered(900) {
			wantGet(t, d, k+"?", 0, false)
			wantDelete(t, d, k+"?", false)
			wantDelete(t, d, k, true)
			wantGet(t, d, k, 0, false)
			wantDelete(t, d, k, false)
			if n%2 == 0 {
				m.delete(k)
				wantShape(t, d, m)
				continue
			}
			wantPut(t, d, k, n*n)
			m.put(k, n*n)
			wantGet(t, d, k, n*n, true)
			wantShape(t, d, m)
		}
		wantAll(t, d, m)
		wantBuckets(t, d, m)
	}
}

// P10.1: a dict that is emptied has the Depth and the Tables that it had, and takes as many keys again, the same ones and others.
func TestFillAndEmpty(t *testing.T) {
	for _, seed := range seeds {
		keys := numbered(1200)
		d, m := filled(t, seed, keys)
		depth, tables := d.Depth(), d.Tables()
		for turn := range 3 {
			for _, k := range keys {
				wantDelete(t, d, k, true)
				m.delete(k)
			}
			wantNothing(t, d, m)
			wantBuckets(t, d, m)
			if d.Depth() != depth || d.Tables() != tables {
				t.Fatalf("P10.1: emptied: Depth %d, Tables %d, want %d, %d", d.Depth(), d.Tables(), depth, tables)
			}
			for n, k := range keys {
				wantPut(t, d, k, n+turn)
				m.put(k, n+turn)
			}
			wantAll(t, d, m)
			if d.Depth() != depth || d.Tables() != tables {
				t.Fatalf("P10.1: filled again: Depth %d, Tables %d, want %d, %d", d.Depth(), d.Tables(), depth, tables)
			}
			slices.Reverse(keys)
		}
		for n := range 1200 {
			wantPut(t, d, fmt.Sprint("other", n), n)
			m.put(fmt.Sprint("other", n), n)
			wantShape(t, d, m)
		}
		wantAll(t, d, m)
	}
}

// P10.1: plays of puts and deletes against the chapter's words, with few keys and many, and keys of one hash.
func TestPlays(t *testing.T) {
	r := rand.New(rand.NewSource(10))
	for _, seed := range append(slices.Clone(seeds), r.Uint64(), r.Uint64()) {
		for _, keys := range [][]string{numbered(8), numbered(125), numbered(600), numbered(5000), zeros(300), odd()[:260]} {
			d, m := dict.New[int](seed), newModel(seed)
			for n := range 3000 {
				play(t, r, d, m, keys, []int{9, 5, 2, 7}[n/400%4])
				if n%10 == 0 {
					wantShape(t, d, m)
				}
				if n%500 == 0 {
					wantAll(t, d, m)
				}
			}
			wantAll(t, d, m)
		}
	}
}

// wantKept puts, gets and deletes values of one type, through splits and behind a full table of MaxDepth.
func wantKept[V any](t *testing.T, values []V, equal func(a, b V) bool) {
	t.Helper()
	var none V
	for seed, keys := range map[uint64][]string{1: numbered(400), begin: zeros(250)} {
		d := dict.New[V](seed)
		for n, k := range keys {
			if got, ok := d.Get(k); ok || !equal(got, none) {
				t.Errorf("P10.1: Get of none of %T: %v, %t", none, got, ok)
			}
			d.Put(k, none)
			d.Put(k, values[n%len(values)])
		}
		for n, k := range keys {
			if got, ok := d.Get(k); !ok || !equal(got, values[n%len(values)]) {
				t.Errorf("P10.1: Get of %T: %v, %t, want %v", none, got, ok, values[n%len(values)])
			}
			d.Delete(k)
			if got, ok := d.Get(k); ok || !equal(got, none) {
				t.Errorf("P10.1: Get of what was deleted of %T: %v, %t", none, got, ok)
			}
		}
		if d.Len() != 0 {
			t.Errorf("P10.1: Len %d", d.Len())
		}
	}
}

func isSame[V comparable](a, b V) bool { return a == b }

// P10.1: values of several types, their zero values among them.
func TestTypes(t *testing.T) {
	one, two := 1, 1
	wantKept(t, []string{"a", "", "\xff"}, isSame)
	wantKept(t, []bool{true, false}, isSame)
	wantKept(t, []float64{0.5, -1}, isSame)
	wantKept(t, []*int{&one, nil, &two}, isSame)
	wantKept(t, []api.Pair{{Field: "f", Value: "v"}, {}}, isSame)
	wantKept(t, []struct{}{{}}, isSame)
	wantKept(t, []error{nil, api.ErrFull, errors.New("other")}, isSame)
	wantKept(t, []any{nil, 1, "a", struct{}{}}, isSame)
	wantKept(t, [][]byte{nil, {1, 2}, []byte("abc")}, slices.Equal)
	wantKept(t, []func() int{nil}, func(a, b func() int) bool { return a == nil && b == nil })
}

// P10.1: a value is the one that was put, not a copy of what it leads to.
func TestValuesThemselves(t *testing.T) {
	d := dict.New[*int](2)
	values := make([]int, 300)
	for n, k := range numbered(300) {
		d.Put(k, &values[n])
	}
	for n, k := range numbered(300) {
		if p, ok := d.Get(k); !ok || p != &values[n] {
			t.Fatalf("P10.1: Get(%s): another value", k)
		}
	}
}

// A dict keeps no value that none of its keys has any more.
func TestNothingKept(t *testing.T) {
	for seed, keys := range map[uint64][]string{1: numbered(500), begin: zeros(250)} {
		d := dict.New[*[64]int](seed)
		var gone []weak.Pointer[[64]int]
		for _, k := range keys {
			v := new([64]int)
			gone = append(gone, weak.Make(v))
			d.Put(k, v)
		}
		for n, k := range keys {
			if n%2 == 0 {
				d.Delete(k)
			} else {
				d.Put(k, nil)
			}
		}
		runtime.GC()
		for n, p := range gone {
			if p.Value() != nil {
				t.Errorf("the value of %.24q is kept", keys[n])
			}
		}
		if d.Len() != len(keys)/2 {
			t.Errorf("P10.1: Len %d", d.Len())
		}
	}
}

// P10.1, P10.3, R4: dicts are by themselves, and tell the same behind the same calls, in the same order.
func TestTwoDicts(t *testing.T) {
	keys := numbered(1000)
	for _, seed := range seeds {
		one, ones := dict.New[int](seed), newModel(seed)
		two, twos := dict.New[int](seed), newModel(seed)
		other, _ := filled(t, seed, zeros(150))
		was := told(other, zeros(150))
		for step := range 900 {
			play(t, rand.New(rand.NewSource(int64(step))), one, ones, keys, 9)
			play(t, rand.New(rand.NewSource(int64(step))), two, twos, keys, 9)
			if step%30 == 0 {
				wantSame(t, two, keys, told(one, keys))
			}
		}
		wantSame(t, two, keys, told(one, keys))
		wantAll(t, one, twos)
		wantSame(t, other, zeros(150), was)
	}
}
