package dict_test

import (
	"fmt"
	"maps"
	"math"
	"math/rand"
	"slices"
	"testing"

	"tallboy/api"
	"tallboy/dict"
)

// scanner has the buckets of a model, to tell Scans of a dict that is not changed.
type scanner struct {
	depth int
	by    map[uint64][]string
}

func (m *model) scanner() scanner {
	return scanner{m.depth, m.buckets()}
}

// scan is what Scan tells by the chapter's words, the keys sorted, and by which of its three ends it ended: "0", "keys", "buckets", one behind the other.
func (s scanner) scan(c uint64, count int) ([]string, uint64, string) {
	if count < 1 {
		count = 1
	}
	if count > 1000 {
		count = 1000
	}
	var keys []string
	for gone := 1; ; gone++ {
		keys = append(keys, s.by[c%(1<<s.depth)]...)
		c = next(c, s.depth)
		end := ""
		if c == 0 {
			end += "0"
		}
		if len(keys) >= count {
			end += "keys"
		}
		if gone == 10*count {
			end += "buckets"
		}
		if end != "" {
			return slices.Sorted(slices.Values(keys)), c, end
		}
	}
}

// wantScan is P10.2, and tells what the dict told, and the end.
func wantScan(t *testing.T, d *dict.Dict[int], s scanner, c uint64, count int) ([]string, uint64, string) {
	t.Helper()
	keys, to, end := s.scan(c, count)
	got, at := d.Scan(c, count)
	if at != to || !slices.Equal(slices.Sorted(slices.Values(got)), keys) {
		t.Fatalf("P10.2: Scan(%#x, %d) of depth %d: %d keys, %#x, want %d, %#x", c, count, s.depth, len(got), at, len(keys), to)
	}
	return got, at, end
}

// wantChain is P10.2 and P10.4 of a dict that is not changed: each key just once. It tells the ends that there were.
func wantChain(t *testing.T, d *dict.Dict[int], m *model, count int) map[string]int {
	t.Helper()
	s, ends := m.scanner(), map[string]int{}
	var all []string
	c := uint64(0)
	for {
		keys, to, end := wantScan(t, d, s, c, count)
		all = append(all, keys...)
		ends[end]++
		if c = to; c == 0 {
			break
		}
	}
	if !slices.Equal(slices.Sorted(slices.Values(all)), slices.Sorted(maps.Keys(m.all()))) {
		t.Fatalf("P10.4: a chain by %d tells %d keys of %d", count, len(all), d.Len())
	}
	return ends
}

// P10.2: Bucket and Scan of a dict of one table: all keys, whatever the cursor is.
func TestScanOfOneTable(t *testing.T) {
	for _, seed := range seeds {
		for _, n := range []int{1, 2, 10, api.Room} {
			d, m := filled(t, seed, numbered(n))
			wantBuckets(t, d, m)
			for _, c := range []uint64{0, 1, 7, 1 << 20, 1 << 63, greatest} {
				for _, count := range counts {
					if keys, to := d.Scan(c, count); len(keys) != n || to != 0 {
						t.Errorf("P10.2: Scan(%d, %d) of %d keys: %d, %d", c, count, n, len(keys), to)
					}
				}
			}
		}
	}
}

// P10.2, P10.4: chains of Scans with each count, of dicts of several depths, not changed.
func TestChainsOfUnchanged(t *testing.T) {
	for _, seed := range seeds {
		for _, n := range []int{0, 1, api.Room, api.Room + 1, 300, 1001, 3000} {
			d, m := filled(t, seed, numbered(n))
			wantBuckets(t, d, m)
			was := told(d, numbered(n))
			for _, count := range counts {
				wantChain(t, d, m, count)
			}
			wantSame(t, d, numbered(n), was)
		}
	}
}

// P10.2: a Scan from any cursor, bits above the depth's among them.
func TestScanFromAnywhere(t *testing.T) {
	r := rand.New(rand.NewSource(2))
	for _, seed := range seeds {
		d, m := filled(t, seed, numbered(2000))
		s := m.scanner()
		for c := range uint64(1) << m.depth {
			for _, more := range []uint64{0, 1 << m.depth, 1 << 63, greatest << m.depth} {
				wantScan(t, d, s, c|more, 1+r.Intn(200))
			}
		}
		for range 300 {
			wantScan(t, d, s, r.Uint64(), counts[r.Intn(len(counts))])
		}
	}
}

// sparse is a dict of depth MaxDepth with more keys than Room in the last of its buckets, and these ones beside them.
func sparse(t *testing.T, seed uint64, keys []string) (*dict.Dict[int], *model) {
	t.Helper()
	d, m := filled(t, seed, append(alike(seed, api.MaxDepth, 0xffff, api.Room+1), keys...))
	if m.depth != api.MaxDepth {
		t.Fatalf("P10.1: Depth %d", m.depth)
	}
	return d, m
}

// P10.2: a Scan of buckets without keys ends behind 10 times count of them, and tells the cursor that comes next.
func TestScanEndsByBuckets(t *testing.T) {
	d, m := sparse(t, 5, nil)
	s := m.scanner()
	for _, count := range counts {
		keys, to, end := wantScan(t, d, s, 0, count)
		if len(keys) != 0 || end != "buckets" {
			t.Errorf("P10.2: Scan(0, %d): %d keys, by %s", count, len(keys), end)
		}
		at := uint64(0)
		for range 10 * min(max(count, 1), 1000) {
			at = next(at, api.MaxDepth)
		}
		if to != at {
			t.Errorf("P10.2: Scan(0, %d): cursor %#x, want %#x", count, to, at)
		}
	}
	if _, to := d.Scan(0, 1); to != 0x5000 {
		t.Errorf("P10.2: Scan(0, 1): cursor %#x", to)
	}
	for _, count := range []int{1, 7, 1000} {
		ends := wantChain(t, d, m, count)
		if ends["buckets"] != (1<<16-1)/(10*count) {
			t.Errorf("P10.2: a chain by %d: %v", count, ends)
		}
	}
}

// P10.2: a Scan ends behind the bucket by which count keys are told, and not ahead of it; about 1000 where buckets have one key each, or none.
func TestScanEndsByKeys(t *testing.T) {
	d, m := sparse(t, 6, numbered(20000))
	s := m.scanner()
	for _, count := range []int{1, 2, 3, 10, 500, 998, 999, 1000, 1001, 1002, math.MaxInt} {
		least := min(count, 1000)
		keys, to, end := wantScan(t, d, s, 0, count)
		if end != "keys" || to == 0 || len(keys) < least || len(keys) > least+10 {
			t.Errorf("P10.2: Scan(0, %d): %d keys, %#x, by %s", count, len(keys), to, end)
		}
	}
	exact := 0
	for c := uint64(0); ; {
		a, _, _ := wantScan(t, d, s, c, 1000)
		b, to, _ := wantScan(t, d, s, c, 1001)
		if len(a) == 1000 && len(b) == 1000 {
			exact++
		}
		if c = to; c == 0 {
			break
		}
	}
	if exact < 5 {
		t.Errorf("only %d Scans tell just 1000 keys", exact)
	}
	wantChain(t, d, m, 100)
}

// P10.2: a Scan ends by the cursor 0 where neither enough keys nor enough buckets are behind it, and where they are, too.
func TestScanEndsByZero(t *testing.T) {
	d, m := filled(t, 7, numbered(2000))
	s := m.scanner()
	last := uint64(1)<<m.depth - 1
	for _, count := range []int{150, 1000, math.MaxInt} {
		if _, to, end := wantScan(t, d, s, last, count); to != 0 || end != "0" {
			t.Errorf("P10.2: Scan(last, %d): %d, by %s", count, to, end)
		}
	}
	if _, to, end := wantScan(t, d, s, last, 1); to != 0 || end != "0keys" {
		t.Errorf("P10.2: Scan(last, 1): %d, by %s", to, end)
	}
	if keys, to, end := wantScan(t, d, s, 0, 100); to == 0 || end != "keys" || len(keys) < 100 {
		t.Errorf("P10.2: Scan(0, 100): %d keys, %d, by %s", len(keys), to, end)
	}
	for _, k := range numbered(2000) {
		d.Delete(k)
		m.delete(k)
	}
	empty := m.scanner()
	if _, to, end := wantScan(t, d, empty, 0, 1); to == 0 || end != "buckets" {
		t.Errorf("P10.2: Scan(0, 1) of an emptied dict: %d, by %s", to, end)
	}
	if _, to, end := wantScan(t, d, empty, 0, 1000); to != 0 || end != "0" {
		t.Errorf("P10.2: Scan(0, 1000) of an emptied dict: %d, by %s", to, end)
	}
	// The tenth bucket ahead of the end: both ends are there at one time.
	c := uint64(0)
	for range 1<<m.depth - 10 {
		c = next(c, m.depth)
	}
	if _, to, end := wantScan(t, d, empty, c, 1); to != 0 || end != "0buckets" {
		t.Errorf("P10.2: Scan(%d, 1) of an emptied dict: %d, by %s", c, to, end)
	}
}

// P10.2: a bucket is told whole, however little was asked for, those behind a full table of MaxDepth too.
func TestScanOfCrowds(t *testing.T) {
	for seed, keys := range crowds(2*api.Room + 30) {
		d, m := filled(t, seed, keys)
		s := m.scanner()
		var at uint64
		for c := range s.by {
			at = c
		}
		for _, count := range counts {
			got, _, _ := wantScan(t, d, s, at, count)
			if len(got) != len(keys) {
				t.Errorf("P10.2: Scan(%#x, %d): %d keys of %d", at, count, len(got), len(keys))
			}
		}
		wantChain(t, d, m, 20)
	}
}

// changing is a chain of Scans while others put and delete between.
type changing struct {
	d     *dict.Dict[int]
	m     *model
	stays []string
	was   map[string]int // what was put at any time
	seen  map[string]int
	now   *scanner // of the model as it is, nil behind a change
}

func newChanging(seed uint64, stays []string) *changing {
	x := &changing{d: dict.New[int](seed), m: newModel(seed), stays: stays, was: map[string]int{}, seen: map[string]int{}}
	for _, k := range stays {
		x.put(k)
	}
	return x
}

func (x *changing) put(key string) {
	x.d.Put(key, len(x.was))
	x.m.put(key, len(x.was))
	x.was[key]++
	x.now = nil
}

func (x *changing) delete(key string) {
	x.d.Delete(key)
	x.m.delete(key)
	x.now = nil
}

func (x *changing) scanner() scanner {
	if x.now == nil {
		s := x.m.scanner()
		x.now = &s
	}
	return *x.now
}

// chain scans from 0 back to 0, with a change between each two Scans, but no more than so many, so that there is an end.
func (x *changing) chain(t *testing.T, count func() int, changes int, change func(step int)) {
	t.Helper()
	c := uint64(0)
	for step := 0; ; step++ {
		keys, to, _ := wantScan(t, x.d, x.scanner(), c, count())
		for _, k := range keys {
			if x.was[k] == 0 {
				t.Fatalf("P10.4: %q is told, and never was", k)
			}
			x.seen[k]++
		}
		if c = to; c == 0 {
			break
		}
		if step < changes {
			change(step)
		}
	}
	for _, k := range x.stays {
		if x.seen[k] == 0 {
			t.Fatalf("P10.4: %q is missed", k)
		}
	}
	wantAll(t, x.d, x.m)
}

// P10.4: what is there all the time is told, whatever comes and goes between: much or little, with splits.
func TestChainsOfChanged(t *testing.T) {
	r := rand.New(rand.NewSource(4))
	deepened := 0
	for _, seed := range append(slices.Clone(seeds), r.Uint64(), r.Uint64(), r.Uint64(), r.Uint64()) {
		for _, n := range []int{1, api.Room, 130, 400, 900} {
			x := newChanging(seed, numbered(n))
			for range r.Intn(1000) {
				x.put(fmt.Sprint("comes", r.Intn(3000)))
			}
			depth, much := x.d.Depth(), 1+r.Intn(300)
			x.chain(t, func() int { return 1 + r.Intn(30) }, 40, func(int) {
				for range r.Intn(much) {
					k := fmt.Sprint("comes", r.Intn(3000))
					if r.Intn(3) == 0 {
						x.delete(k)
					} else {
						x.put(k)
					}
				}
			})
			if x.d.Depth() > depth {
				deepened++
			}
		}
	}
	if deepened < 10 {
		t.Errorf("only %d chains saw the directory deepen", deepened)
	}
}

// P10.4: one Put between two Scans lets the directory deepen by many bits, behind each step of the chain.
func TestChainsThatDeepen(t *testing.T) {
	for _, seed := range []uint64{1, greatest} {
		for at := range 8 {
			for _, bits := range []int{6, 9, 11} {
				low := uint64(at*0x9d3d) % (1 << bits)
				crowd := alike(seed, bits, low, 2*api.Room)
				x := newChanging(seed, numbered(900))
				depth := x.d.Depth()
				x.chain(t, func() int { return 1 }, 8, func(step int) {
					if step != at {
						return
					}
					for _, k := range crowd {
						x.put(k)
					}
				})
				if x.d.Depth() < max(bits, depth+1) {
					t.Fatalf("the directory has depth %d, and had %d", x.d.Depth(), depth)
				}
			}
		}
	}
}

// P10.4: a dict whose keys all go between but those that stay, one of them put again each time, and one that is alone in the end.
func TestChainsThatEmpty(t *testing.T) {
	for _, seed := range seeds {
		for _, stays := range [][]string{{""}, {"key:5", "key:77"}, zeros(120)} {
			x := newChanging(seed, stays)
			for _, k := range numbered(1500) {
				x.put(k)
			}
			x.chain(t, func() int { return 1 }, 15, func(step int) {
				for n, k := range numbered(1500) {
					if n%15 == step && !slices.Contains(stays, k) {
						x.delete(k)
					}
				}
				x.put(stays[step%len(stays)])
			})
		}
	}
}

// P10.4: keys of one bucket of MaxDepth that go and come behind a full table, while others of it stay.
func TestChainsOfCrowds(t *testing.T) {
	for seed, keys := range crowds(2*api.Room + 30) {
		x := newChanging(seed, keys[:150])
		for _, k := range keys[150:] {
			x.put(k)
		}
		r := rand.New(rand.NewSource(5))
		x.chain(t, func() int { return 300 }, 100, func(int) {
			for range 20 {
				k := keys[150+r.Intn(len(keys)-150)]
				x.delete(k)
				x.put(keys[150+r.Intn(len(keys)-150)])
			}
		})
	}
}

// P10.1, P10.2, R2: what Keys, Bucket and Scan told may be turned, spare room and all; and no later call turns it.
func TestListsByThemselves(t *testing.T) {
	for _, seed := range []uint64{0, begin} {
		for _, keys := range [][]string{numbered(1), numbered(api.Room), numbered(300), zeros(150)} {
			d, m := filled(t, seed, keys)
			was := told(d, keys)
			at := m.where(keys[0]).low
			ask := func() [][]string {
				scanned, _ := d.Scan(at, 100)
				return [][]string{d.Keys(), d.Bucket(at), scanned}
			}
			turned, kept := ask(), ask()
			var want [][]string
			for _, l := range kept {
				want = append(want, slices.Clone(l))
			}
			for _, l := range turned {
				for i := range l[:cap(l)] {
					l[:cap(l)][i] = "turned"
				}
			}
			wantSame(t, d, keys, was)
			for _, k := range append(numbered(200), keys...) {
				wantPut(t, d, k, 9)
				m.put(k, 9)
			}
			wantAll(t, d, m)
			for _, k := range numbered(200) {
				wantDelete(t, d, k, true)
			}
			for i := range kept {
				if !slices.Equal(kept[i], want[i]) {
					t.Fatal("R2: an answer is turned by a later call, or shares memory with another one")
				}
			}
		}
	}
}
