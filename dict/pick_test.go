package dict_test

import (
	"math"
	"math/rand"
	"testing"

	"tallboy/api"
	"tallboy/dict"
)

// numbers are the ends, the powers of two and their neighbours, and numbers of chance of every size.
func numbers() []uint64 {
	l := []uint64{0, 1, 2, 3, 7, 111, 112, 113, math.MaxInt32, math.MaxUint32, math.MaxInt64, 1 << 63, greatest - 1, greatest}
	for shift := range 64 {
		l = append(l, 1<<shift-1, 1<<shift, 1<<shift+1)
	}
	r := rand.New(rand.NewSource(6))
	for range 300 {
		l = append(l, r.Uint64()>>r.Intn(64))
	}
	return l
}

// wantPicks is P10.3: of each number a key that is there, and the same one again.
func wantPicks(t *testing.T, d *dict.Dict[int], m *model) {
	t.Helper()
	first := map[uint64]string{}
	for _, n := range numbers() {
		k, ok := d.Pick(n)
		if _, there := m.get(k); !ok || !there {
			t.Fatalf("P10.3: Pick(%d) of %d: %.24q, %t", n, d.Len(), k, ok)
		}
		first[n] = k
	}
	d.Keys()
	d.Scan(0, 5)
	d.Get("never there")
	d.Delete("never there")
	for n, k := range first {
		if again, ok := d.Pick(n); again != k || !ok {
			t.Fatalf("P10.3: Pick(%d) of %d: %.24q, then %.24q", n, d.Len(), k, again)
		}
	}
	wantShape(t, d, m)
}

// P10.3: of one key, of one table, of many, with the empty text among them, and of tables that stand behind another one.
func TestPick(t *testing.T) {
	for _, seed := range seeds {
		for _, keys := range [][]string{{""}, {"a"}, numbered(2), odd()[:100], numbered(api.Room), numbered(api.Room + 1), numbered(1500), zeros(api.Room + 1), zeros(2*api.Room + 30)} {
			d, m := filled(t, seed, keys)
			wantPicks(t, d, m)
			for n := range uint64(2 * len(keys)) {
				k, ok := d.Pick(n)
				if _, there := m.get(k); !ok || !there {
					t.Fatalf("P10.3: Pick(%d) of %d: %.24q, %t", n, d.Len(), k, ok)
				}
			}
		}
	}
}

// P10.3: what is picked is taken away, until there is none: each key once, tables without keys on the way.
func TestPickAndDelete(t *testing.T) {
	r := rand.New(rand.NewSource(7))
	for _, seed := range seeds {
		for _, keys := range [][]string{numbered(700), zeros(250)} {
			d, m := filled(t, seed, keys)
			for range keys {
				n := []uint64{0, 5, greatest, r.Uint64()}[r.Intn(4)]
				k, ok := d.Pick(n)
				if _, there := m.get(k); !ok || !there {
					t.Fatalf("P10.3: Pick(%d) of %d: %.24q, %t", n, d.Len(), k, ok)
				}
				wantDelete(t, d, k, true)
				m.delete(k)
			}
			wantNothing(t, d, m)
		}
	}
}

// P10.3: a key that is alone in a dict that had many is found by every number.
func TestPickOfOne(t *testing.T) {
	for _, seed := range seeds {
		d, m := filled(t, seed, numbered(500))
		for _, k := range numbered(500)[1:] {
			wantDelete(t, d, k, true)
			m.delete(k)
		}
		for _, n := range numbers() {
			if k, ok := d.Pick(n); k != "key:0" || !ok {
				t.Fatalf("P10.3: Pick(%d) of one: %q, %t", n, k, ok)
			}
		}
	}
}

// P10.3: behind puts and deletes of chance, too.
func TestPickBehindPlays(t *testing.T) {
	r, keys := rand.New(rand.NewSource(8)), numbered(2000)
	for _, seed := range seeds {
		d, m := filled(t, seed, []string{"stays"})
		for n := range 4000 {
			play(t, r, d, m, keys, []int{9, 3}[n/500%2])
			k, ok := d.Pick(r.Uint64() >> r.Intn(64))
			if _, there := m.get(k); !ok || !there {
				t.Fatalf("P10.3: Pick of %d: %.24q, %t", d.Len(), k, ok)
			}
		}
		wantPicks(t, d, m)
	}
}
