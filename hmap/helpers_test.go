package hmap_test

import (
	"cmp"
	"fmt"
	"maps"
	"math"
	"math/rand"
	"slices"
	"strconv"
	"strings"
	"testing"

	"tallboy/api"
	"tallboy/dict"
	"tallboy/hmap"
)

// begin is a seed by which the empty text and all texts of zeros have one hash.
const begin = 0xcbf29ce484222325

var (
	longest = strings.Repeat("x", api.MaxEntry)
	tooLong = longest + "x"

	seeds   = []uint64{0, 1, 7, begin, 1 << 63, math.MaxUint64}
	cursors = []uint64{0, 1, 2, 7, 255, 256, 1 << 16, 1 << 32, 1 << 63, math.MaxUint64 - 1, math.MaxUint64}
	counts  = []int{math.MinInt, -1 << 32, -1, 0, 1, 2, 3, 10, 100, 1000, 1001, 1 << 32, math.MaxInt}
)

// limits has these two.
func limits(entries, text int) api.Limits {
	return api.Limits{Entries: entries, Text: text}
}

// someLimits are such as hold as they are, and such as count as others; those that are small in fewer bits are among them.
func someLimits() []api.Limits {
	var l []api.Limits
	for _, entries := range []int{math.MinInt, -1 << 32, -1, 0, 1, 2, 3, 100, 511, 512, 513, 1 << 32, math.MaxInt} {
		for _, text := range []int{math.MinInt, -1, 0, 1, 5, 59, 60, 61, 1 << 32, math.MaxInt} {
			l = append(l, limits(entries, text))
		}
	}
	return l
}

// someTexts are the texts at each edge of an entry and of the limits, each another one: numbers, such as are nearly numbers, broken runes.
func someTexts() []string {
	l := []string{"", "0", "5", "127", "128", "-1", "9223372036854775807", "-9223372036854775808", "9223372036854775808", "007", "-0", "a", "ab", "A", "\x00", "\x00\x00", "\x80", "\xff\x05\x01", "\x05\x01", "\u00e9", "a\r\n"}
	for _, n := range []int{59, 60, 61, 62, 63, 64, 65, 124, 125, 126, 4095, 4096} {
		l = append(l, strings.Repeat("x", n), strings.Repeat("\x81", n), strings.Repeat("1", n))
	}
	return l
}

// names are so many fields, each another one.
func names(n int) []string {
	var l []string
	for i := range n {
		l = append(l, "f"+strconv.Itoa(i))
	}
	return l
}

// model is a hash as the chapter's words tell it: pairs in a map, and, once it is not packed any more, a dict that was put and deleted the same fields.
type model struct {
	seed    uint64
	entries int
	text    int
	pairs   map[string]string
	fields  *dict.Dict[int]
}

// counted is what a limit counts as, which is 0 at least.
func counted(n, most int) int {
	if n < 0 {
		return 0
	}
	if n > most {
		return most
	}
	return n
}

func newModel(seed uint64, l api.Limits) *model {
	return &model{seed: seed, entries: counted(l.Entries, 512), text: counted(l.Text, 60), pairs: map[string]string{}}
}

// set is what Set tells.
func (w *model) set(field, value string) (bool, api.Code) {
	if len(field) > 4096 || len(value) > 4096 {
		return false, api.ErrLong
	}
	before := len(w.pairs)
	w.pairs[field] = value
	switch {
	case w.fields != nil:
		w.fields.Put(field, 0)
	case len(w.pairs) > w.entries, len(field) > w.text, len(value) > w.text:
		w.fields = dict.New[int](w.seed)
		for f := range w.pairs {
			w.fields.Put(f, 0)
		}
	}
	return len(w.pairs) > before, api.OK
}

// drop is what Delete tells.
func (w *model) drop(field string) bool {
	_, there := w.pairs[field]
	delete(w.pairs, field)
	if w.fields != nil {
		w.fields.Delete(field)
	}
	return there
}

// sorted are the pairs of these fields.
func (w *model) sorted(fields []string) []api.Pair {
	var l []api.Pair
	for _, f := range slices.Sorted(slices.Values(fields)) {
		l = append(l, api.Pair{Field: f, Value: w.pairs[f]})
	}
	return l
}

// all are all pairs, sorted.
func (w *model) all() []api.Pair {
	return w.sorted(slices.Collect(maps.Keys(w.pairs)))
}

// scan is what Scan tells, the pairs sorted.
func (w *model) scan(c uint64, count int) ([]api.Pair, uint64) {
	if w.fields == nil {
		return w.all(), 0
	}
	fields, next := w.fields.Scan(c, count)
	return w.sorted(fields), next
}

// sorted are these pairs by their fields, in new memory.
func sorted(l []api.Pair) []api.Pair {
	return slices.SortedFunc(slices.Values(l), func(a, b api.Pair) int { return cmp.Compare(a.Field, b.Field) })
}

// brief is a list of pairs as a failure shows it.
func brief(l []api.Pair) string {
	return fmt.Sprintf("%d pairs %.300q", len(l), l)
}

// both are a hash and its model.
func both(seed uint64, l api.Limits) (*hmap.Map, *model) {
	return hmap.New(seed, l), newModel(seed, l)
}

// filled is a hash of these fields, each with its place as its value, and its model.
func filled(t *testing.T, seed uint64, l api.Limits, fields []string) (*hmap.Map, *model) {
	t.Helper()
	m, w := both(seed, l)
	for i, f := range fields {
		wantSet(t, m, w, f, strconv.Itoa(i))
	}
	wantMap(t, m, w)
	return m, w
}

func wantSet(t *testing.T, m *hmap.Map, w *model, field, value string) {
	t.Helper()
	fresh, why := w.set(field, value)
	if got, code := m.Set(field, value); got != fresh || code != why {
		t.Fatalf("P13.1: Set(%.24q, %.24q) among %d: %t, %d, want %t, %d", field, value, m.Len(), got, code, fresh, why)
	}
	if m.Packed() != (w.fields == nil) {
		t.Fatalf("P13.2: Packed %t behind Set(%.24q, %.24q), limits %d and %d, %d fields", m.Packed(), field, value, w.entries, w.text, len(w.pairs))
	}
}

func wantDelete(t *testing.T, m *hmap.Map, w *model, field string) {
	t.Helper()
	there := w.drop(field)
	if got := m.Delete(field); got != there {
		t.Fatalf("P13.1: Delete(%.24q) among %d: %t", field, m.Len(), got)
	}
	if m.Packed() != (w.fields == nil) {
		t.Fatalf("P13.2: Packed %t behind Delete", m.Packed())
	}
}

// wantGet asks for field in both.
func wantGet(t *testing.T, m *hmap.Map, w *model, field string) {
	t.Helper()
	value, there := w.pairs[field]
	if got, ok := m.Get(field); got != value || ok != there {
		t.Fatalf("P13.1: Get(%.24q) among %d: %.24q, %t, want %.24q, %t", field, m.Len(), got, ok, value, there)
	}
}

// wantPairs asks that the hash has just what its model has, however it is asked for all.
func wantPairs(t *testing.T, m *hmap.Map, w *model) {
	t.Helper()
	if m.Len() != len(w.pairs) {
		t.Fatalf("P13.1: Len %d, want %d", m.Len(), len(w.pairs))
	}
	if got := m.All(); !slices.Equal(sorted(got), w.all()) {
		t.Fatalf("P13.1: All: %s, want %s", brief(got), brief(w.all()))
	}
	for f, v := range w.pairs {
		wantGet(t, m, w, f)
		// A value is a field only if it is one by itself.
		wantGet(t, m, w, v)
	}
	wantGet(t, m, w, "never there")
}

// wantMap asks for pairs, Packed and some Scans.
func wantMap(t *testing.T, m *hmap.Map, w *model) {
	t.Helper()
	wantPairs(t, m, w)
	if m.Packed() != (w.fields == nil) {
		t.Fatalf("P13.2: Packed %t, limits %d and %d, %d fields", m.Packed(), w.entries, w.text, len(w.pairs))
	}
	for i, c := range cursors {
		wantScan(t, m, w, c, counts[i%len(counts)])
	}
}

// wantScan asks both, and tells what the hash told.
func wantScan(t *testing.T, m *hmap.Map, w *model, c uint64, count int) ([]api.Pair, uint64) {
	t.Helper()
	pairs, to := w.scan(c, count)
	got, next := m.Scan(c, count)
	if next != to || !slices.Equal(sorted(got), pairs) {
		t.Fatalf("P13.2: Scan(%#x, %d), packed %t: %s, %#x, want %s, %#x", c, count, m.Packed(), brief(got), next, brief(pairs), to)
	}
	return got, next
}

// told is all that the hash tells, with every order.
func told(m *hmap.Map, fields []string) string {
	var b strings.Builder
	fmt.Fprintf(&b, "%d %t %q\n", m.Len(), m.Packed(), m.All())
	for i, c := range cursors {
		l, next := m.Scan(c, counts[i%len(counts)])
		fmt.Fprintf(&b, "%q %d\n", l, next)
	}
	for _, f := range fields {
		v, ok := m.Get(f)
		fmt.Fprintf(&b, "%q %t\n", v, ok)
	}
	return b.String()
}

// wantTold asks that the hash tells what was told.
func wantTold(t *testing.T, m *hmap.Map, fields []string, was, name string) {
	t.Helper()
	if is := told(m, fields); is != was {
		t.Fatalf("%s: the hash tells %.300s\nit told %.300s", name, is, was)
	}
}

// play sets, deletes or gets one of the fields, so many of 10 times a set.
func play(t *testing.T, r *rand.Rand, m *hmap.Map, w *model, fields, values []string, sets int) {
	t.Helper()
	f := fields[r.Intn(len(fields))]
	if r.Intn(10) < sets {
		wantSet(t, m, w, f, values[r.Intn(len(values))])
	} else {
		wantDelete(t, m, w, f)
	}
	wantGet(t, m, w, f)
	wantGet(t, m, w, fields[r.Intn(len(fields))])
	if m.Len() != len(w.pairs) {
		t.Fatalf("P13.1: Len %d, want %d", m.Len(), len(w.pairs))
	}
}
