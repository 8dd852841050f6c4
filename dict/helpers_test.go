package dict_test

import (
	"fmt"
	"maps"
	"math"
	"math/bits"
	"math/rand"
	"slices"
	"strconv"
	"strings"
	"testing"

	"tallboy/api"
	"tallboy/dict"
	"tallboy/hash"
)

const (
	greatest = math.MaxUint64
	begin    = 0xcbf29ce484222325 // by this seed the empty text and all texts of zeros have one hash, 0
)

var (
	seeds = []uint64{0, 1, 7, begin, 1 << 63, 0x0123456789abcdef, greatest - 1, greatest}

	// counts are such as a Scan takes as they are, and such as it takes as 1 or as 1000; those that are small in fewer bits are among them.
	counts = []int{math.MinInt, math.MinInt + 1, -1 << 32, math.MinInt32, -1000, -2, -1, 0, 1, 2, 3, 10, 99, 100, 999, 1000, 1001, 1 << 16, 1 << 32, 1<<32 + 1, math.MaxInt - 1, math.MaxInt}
)

// numbered are n keys, each another one.
func numbered(n int) []string {
	var l []string
	for i := range n {
		l = append(l, fmt.Sprint("key:", i))
	}
	return l
}

// zeros are n texts, each of one zero byte more than the one ahead of it, from the empty one on.
func zeros(n int) []string {
	var l []string
	for i := range n {
		l = append(l, strings.Repeat("\x00", i))
	}
	return l
}

// odd are keys of any bytes, each another one: empty, such as begin alike, of broken runes, of each byte, and long ones last.
func odd() []string {
	l := []string{"", "\x00\x00", "a\x00", "\x00a", "\u00e9", "\ufffd", "\xff\xfe", "\xed\xa0\x80", "\u65e5\u672c", " a", "a ", "aa", "ab", "ba", "A\r\n"}
	for c := range 256 {
		l = append(l, string([]byte{byte(c)}))
	}
	return append(l, strings.Repeat("k", api.MaxKey-1), strings.Repeat("k", api.MaxKey), strings.Repeat("k", api.MaxKey+1), strings.Repeat("k", api.MaxText), strings.Repeat("k", api.MaxText+1))
}

// search is what alike was asked for.
type search struct {
	seed uint64
	bits int
	low  uint64
}

// found is what a search had, and where it goes on.
type found struct {
	keys []string
	next int
}

// known are the searches that were made, as they take long.
var known = map[search]*found{}

// alike are n keys whose hash by this seed has low as its lowest bits, so many of them.
func alike(seed uint64, bits int, low uint64, n int) []string {
	ask := search{seed, bits, low}
	if known[ask] == nil {
		known[ask] = &found{}
	}
	f := known[ask]
	for ; len(f.keys) < n; f.next++ {
		if k := strconv.Itoa(f.next); hash.Of(seed, k)%(1<<bits) == low {
			f.keys = append(f.keys, k)
		}
	}
	return slices.Clone(f.keys[:n])
}

// part is what all keys of a table have: own lowest bits, which are low.
type part struct {
	own int
	low uint64
}

// model is a dict as the chapter's words tell it: the keys of each table, without a directory.
type model struct {
	seed   uint64
	depth  int
	tables map[part]map[string]int
}

func newModel(seed uint64) *model {
	return &model{seed: seed, tables: map[part]map[string]int{{}: {}}}
}

// where is the part that key belongs to.
func (m *model) where(key string) part {
	h := hash.Of(m.seed, key)
	for own := range 17 {
		p := part{own, h % (1 << own)}
		if m.tables[p] != nil {
			return p
		}
	}
	panic("no part of " + key)
}

func (m *model) put(key string, v int) {
	for {
		p := m.where(key)
		has := m.tables[p]
		if _, there := has[key]; there || len(has) < 112 || p.own == 16 {
			has[key] = v
			return
		}
		delete(m.tables, p)
		m.tables[part{p.own + 1, p.low}] = map[string]int{}
		m.tables[part{p.own + 1, p.low + 1<<p.own}] = map[string]int{}
		m.depth = max(m.depth, p.own+1)
		for k, v := range has {
			m.tables[m.where(k)][k] = v
		}
	}
}

func (m *model) delete(key string) {
	delete(m.tables[m.where(key)], key)
}

// get is what key has, and whether it is there.
func (m *model) get(key string) (int, bool) {
	v, ok := m.tables[m.where(key)][key]
	return v, ok
}

// all are the keys and what they have.
func (m *model) all() map[string]int {
	all := map[string]int{}
	for _, has := range m.tables {
		maps.Copy(all, has)
	}
	return all
}

// buckets are the keys of each, sorted, by the lowest bits of their hashes.
func (m *model) buckets() map[uint64][]string {
	by := map[uint64][]string{}
	for _, k := range slices.Sorted(maps.Keys(m.all())) {
		low := hash.Of(m.seed, k) % (1 << m.depth)
		by[low] = append(by[low], k)
	}
	return by
}

// next is the cursor behind c, worked out elsewhere.
func next(c uint64, depth int) uint64 {
	if depth == 0 {
		return 0
	}
	return bits.Reverse64((bits.Reverse64(c)>>(64-depth) + 1) << (64 - depth))
}

// same is the model of a dict that was given these keys, each with its place in the list.
func same(seed uint64, keys []string) *model {
	m := newModel(seed)
	for n, k := range keys {
		m.put(k, n)
	}
	return m
}

// filled is a dict of these keys, each with its place in the list, and its model.
func filled(t *testing.T, seed uint64, keys []string) (*dict.Dict[int], *model) {
	t.Helper()
	d, m := dict.New[int](seed), same(seed, keys)
	for n, k := range keys {
		wantPut(t, d, k, n)
	}
	wantAll(t, d, m)
	return d, m
}

func wantPut(t *testing.T, d *dict.Dict[int], k string, v int) {
	t.Helper()
	if got := d.Put(k, v); got != api.OK {
		t.Fatalf("P10.1: Put(%.24q, %d) among %d: %d", k, v, d.Len(), got)
	}
}

func wantDelete(t *testing.T, d *dict.Dict[int], k string, want bool) {
	t.Helper()
	if got := d.Delete(k); got != want {
		t.Fatalf("P10.1: Delete(%.24q) among %d: %t, want %t", k, d.Len(), got, want)
	}
}

func wantGet(t *testing.T, d *dict.Dict[int], k string, v int, want bool) {
	t.Helper()
	if got, ok := d.Get(k); got != v || ok != want {
		t.Fatalf("P10.1: Get(%.24q) among %d: %d, %t, want %d, %t", k, d.Len(), got, ok, v, want)
	}
}

// wantShape is what Len, Depth and Tables tell.
func wantShape(t *testing.T, d *dict.Dict[int], m *model) {
	t.Helper()
	n := 0
	for _, has := range m.tables {
		n += len(has)
	}
	if d.Len() != n || d.Depth() != m.depth || d.Tables() != len(m.tables) {
		t.Fatalf("P10.1: Len %d, Depth %d, Tables %d, want %d, %d, %d", d.Len(), d.Depth(), d.Tables(), n, m.depth, len(m.tables))
	}
}

// wantAll is what all calls but those of buckets tell.
func wantAll(t *testing.T, d *dict.Dict[int], m *model) {
	t.Helper()
	wantShape(t, d, m)
	all := m.all()
	if keys := slices.Sorted(slices.Values(d.Keys())); !slices.Equal(keys, slices.Sorted(maps.Keys(all))) {
		t.Fatalf("P10.1: %d Keys, want %d: %.100q", len(keys), len(all), keys)
	}
	for k, v := range all {
		wantGet(t, d, k, v, true)
	}
	wantGet(t, d, "never there", 0, false)
}

// wantBuckets is P10.2: all cursors of the depth through, with and without bits above the depth's; of a great depth each in two ways.
func wantBuckets(t *testing.T, d *dict.Dict[int], m *model) {
	t.Helper()
	by := m.buckets()
	for c := range uint64(1) << m.depth {
		mores := []uint64{0, 1 << m.depth, 1 << 40, greatest << m.depth}
		if m.depth > 10 {
			mores = mores[c%3 : c%3+2]
		}
		for _, more := range mores {
			if got := slices.Sorted(slices.Values(d.Bucket(c | more))); !slices.Equal(got, by[c]) {
				t.Fatalf("P10.2: Bucket(%#x) of depth %d: %.100q, want %.100q", c|more, m.depth, got, by[c])
			}
		}
	}
}

// told is all that the dict tells of these keys, with every order.
func told(d *dict.Dict[int], keys []string) string {
	var b strings.Builder
	fmt.Fprintln(&b, d.Len(), d.Depth(), d.Tables())
	fmt.Fprintf(&b, "%q\n", d.Keys())
	for c := range uint64(1) << min(d.Depth(), 7) {
		fmt.Fprintf(&b, "%q\n", d.Bucket(c))
		list, next := d.Scan(c, int(c)%5)
		fmt.Fprintf(&b, "%q %d\n", list, next)
		k, ok := d.Pick(c * c)
		fmt.Fprintf(&b, "%q %t\n", k, ok)
	}
	for _, k := range keys {
		v, ok := d.Get(k)
		fmt.Fprintln(&b, v, ok)
	}
	return b.String()
}

// wantSame is R2 and R4: the dict tells what was told.
func wantSame(t *testing.T, d *dict.Dict[int], keys []string, was string) {
	t.Helper()
	if is := told(d, keys); is != was {
		t.Fatalf("the dict is turned: %.300s\nit was %.300s", is, was)
	}
}

// play puts or deletes one of the keys, so many of 10 times a put, in a dict and its model.
func play(t *testing.T, r *rand.Rand, d *dict.Dict[int], m *model, keys []string, puts int) {
	t.Helper()
	k, v := keys[r.Intn(len(keys))], r.Intn(5)
	if r.Intn(10) < puts {
		wantPut(t, d, k, v)
		m.put(k, v)
		wantGet(t, d, k, v, true)
		return
	}
	_, there := m.get(k)
	wantDelete(t, d, k, there)
	m.delete(k)
	wantGet(t, d, k, 0, false)
}
