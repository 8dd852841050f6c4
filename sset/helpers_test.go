package sset_test

import (
	"fmt"
	"maps"
	"math"
	"math/rand"
	"slices"
	"strconv"
	"strings"
	"testing"

	"tallboy/api"
	"tallboy/dict"
	"tallboy/sset"
)

// begin is a seed by which the empty text and all texts of zeros have one hash.
const begin = 0xcbf29ce484222325

var (
	longest = strings.Repeat("x", api.MaxEntry)
	tooLong = longest + "x"

	seeds   = []uint64{0, 1, 7, begin, 1 << 63, math.MaxUint64}
	cursors = []uint64{0, 1, 2, 7, 255, 256, 1 << 16, 1 << 32, 1 << 63, math.MaxUint64 - 1, math.MaxUint64}
	counts  = []int{math.MinInt, -1 << 32, -1, 0, 1, 2, 3, 10, 100, 1000, 1001, 1 << 32, math.MaxInt}
	// draws are numbers for Pick: the least, the greatest, those that are below 0 in fewer bits or with a sign.
	draws = []uint64{0, 1, 2, 3, 5, 111, 112, 511, 512, 1 << 31, 1<<32 - 1, 1 << 32, 1<<32 + 1, 1<<63 - 1, 1 << 63, 1<<63 + 1, math.MaxUint64 - 1, math.MaxUint64, 0x9e3779b97f4a7c15}
)

// ways are limits by which a set of few and short members is packed, and by which it is not.
var ways = map[string]api.Limits{"packed": {Entries: 512, Text: 60}, "not packed": {}}

// limits has these two.
func limits(entries, text int) api.Limits {
	return api.Limits{Entries: entries, Text: text}
}

// someLimits are such as hold as they are, and such as count as others; those that are small in fewer bits are among them.
func someLimits() []api.Limits {
	var l []api.Limits
	for _, entries := range []int{math.MinInt, -1 << 32, -1, 0, 1, 2, 3, 100, 511, 512, 513, 1 << 32, math.MaxInt} {
		for _, text := range []int{math.MinInt, -1, 0, 1, 5, 59, 60, 61, 1 << 32, math.MaxInt} {
			l = append(l, limits(entries, text))
		}
	}
	return l
}

// someTexts are the texts at each edge of an entry and of the limits, each another one: numbers, such as are nearly numbers, broken runes.
func someTexts() []string {
	l := []string{"", "0", "5", "127", "128", "-1", "9223372036854775807", "-9223372036854775808", "9223372036854775808", "007", "7", "+7", "-0", "a", "ab", "A", "\x00", "\x00\x00", "\x80", "\xff\x05\x01", "\x05\x01", "\u00e9", "a\r\n"}
	for _, n := range []int{59, 60, 61, 62, 63, 64, 65, 124, 125, 126, 4095, 4096} {
		l = append(l, strings.Repeat("x", n), strings.Repeat("\x81", n), strings.Repeat("1", n))
	}
	return l
}

// names are so many members, each another one.
func names(n int) []string {
	var l []string
	for i := range n {
		l = append(l, "m"+strconv.Itoa(i))
	}
	return l
}

// sized is the n-th of many members that have just this many bytes.
func sized(n, bytes int) string {
	s := fmt.Sprintf("%0*x", bytes, n)
	return s[len(s)-bytes:]
}

// sorted are these members in new memory.
func sorted(l []string) []string {
	return slices.Sorted(slices.Values(l))
}

// brief is a list of members as a failure shows it.
func brief(l []string) string {
	return fmt.Sprintf("%d members %.300q", len(l), l)
}

// model is a set as the chapter's words tell it: members in a map, and, once it is not packed any more, a dict that was put and deleted the same ones.
type model struct {
	seed    uint64
	entries int
	text    int
	members map[string]int
	laid    *dict.Dict[int]
}

// counted is what a limit counts as, which is 0 at least.
func counted(n, most int) int {
	if n < 0 {
		return 0
	}
	if n > most {
		return most
	}
	return n
}

func newModel(seed uint64, l api.Limits) *model {
	return &model{seed: seed, entries: counted(l.Entries, 512), text: counted(l.Text, 60), members: map[string]int{}}
}

// add is what Add tells.
func (w *model) add(member string) (bool, api.Code) {
	if len(member) > 4096 {
		return false, api.ErrLong
	}
	before := len(w.members)
	w.members[member]++
	switch {
	case w.laid != nil:
		w.laid.Put(member, 0)
	case len(w.members) > w.entries, len(member) > w.text:
		w.laid = dict.New[int](w.seed)
		for m := range w.members {
			w.laid.Put(m, 0)
		}
	}
	return len(w.members) > before, api.OK
}

// has is what Has tells.
func (w *model) has(member string) bool {
	_, there := w.members[member]
	return there
}

// drop is what Remove tells.
func (w *model) drop(member string) bool {
	there := w.has(member)
	delete(w.members, member)
	if w.laid != nil {
		w.laid.Delete(member)
	}
	return there
}

// all are all members, sorted.
func (w *model) all() []string {
	return slices.Sorted(maps.Keys(w.members))
}

// scan is what Scan tells, the members sorted.
func (w *model) scan(c uint64, count int) ([]string, uint64) {
	if w.laid == nil {
		return w.all(), 0
	}
	members, next := w.laid.Scan(c, count)
	return sorted(members), next
}

// both are a set and its model.
func both(seed uint64, l api.Limits) (*sset.Set, *model) {
	return sset.New(seed, l), newModel(seed, l)
}

// filled is a set of these members, and its model.
func filled(t *testing.T, seed uint64, l api.Limits, members []string) (*sset.Set, *model) {
	t.Helper()
	s, w := both(seed, l)
	for _, m := range members {
		wantAdd(t, s, w, m)
	}
	wantSet(t, s, w)
	return s, w
}

func wantAdd(t *testing.T, s *sset.Set, w *model, member string) {
	t.Helper()
	fresh, why := w.add(member)
	if got, code := s.Add(member); got != fresh || code != why {
		t.Fatalf("P14.1: Add(%.24q) among %d: %t, %d, want %t, %d", member, s.Len(), got, code, fresh, why)
	}
	wantPacked(t, s, w)
}

func wantRemove(t *testing.T, s *sset.Set, w *model, member string) {
	t.Helper()
	there := w.drop(member)
	if got := s.Remove(member); got != there {
		t.Fatalf("P14.1: Remove(%.24q) among %d: %t", member, s.Len(), got)
	}
	wantPacked(t, s, w)
}

func wantPacked(t *testing.T, s *sset.Set, w *model) {
	t.Helper()
	if s.Packed() != (w.laid == nil) {
		t.Fatalf("P14.1: Packed %t, limits %d and %d, %d members", s.Packed(), w.entries, w.text, len(w.members))
	}
}

// wantHas asks for member in both.
func wantHas(t *testing.T, s *sset.Set, w *model, member string) {
	t.Helper()
	if got := s.Has(member); got != w.has(member) {
		t.Fatalf("P14.1: Has(%.24q) among %d: %t", member, s.Len(), got)
	}
}

// wantMembers asks that the set has just what its model has, however it is asked for all.
func wantMembers(t *testing.T, s *sset.Set, w *model) {
	t.Helper()
	if s.Len() != len(w.members) {
		t.Fatalf("P14.1: Len %d, want %d", s.Len(), len(w.members))
	}
	if got := s.All(); !slices.Equal(sorted(got), w.all()) {
		t.Fatalf("P14.1: All: %s, want %s", brief(got), brief(w.all()))
	}
	for m := range w.members {
		wantHas(t, s, w, m)
	}
	wantHas(t, s, w, "never there")
}

// wantPick asks for one of the members, twice, and tells it.
func wantPick(t *testing.T, s *sset.Set, w *model, n uint64) (string, bool) {
	t.Helper()
	got, ok := s.Pick(n)
	if ok != (len(w.members) > 0) || ok && !w.has(got) || !ok && got != "" {
		t.Fatalf("P14.1: Pick(%d) of %d: %.24q, %t", n, len(w.members), got, ok)
	}
	if again, also := s.Pick(n); again != got || also != ok {
		t.Fatalf("P14.1: Pick(%d) of %d: %.24q, then %.24q", n, len(w.members), got, again)
	}
	return got, ok
}

// wantSet asks for members, Packed, some Picks and some Scans.
func wantSet(t *testing.T, s *sset.Set, w *model) {
	t.Helper()
	wantMembers(t, s, w)
	wantPacked(t, s, w)
	for _, n := range draws {
		wantPick(t, s, w, n)
	}
	for i, c := range cursors {
		wantScan(t, s, w, c, counts[i%len(counts)])
	}
}

// wantScan asks both, and tells what the set told.
func wantScan(t *testing.T, s *sset.Set, w *model, c uint64, count int) ([]string, uint64) {
	t.Helper()
	members, to := w.scan(c, count)
	got, next := s.Scan(c, count)
	if next != to || !slices.Equal(sorted(got), members) {
		t.Fatalf("P14.1: Scan(%#x, %d), packed %t: %s, %#x, want %s, %#x", c, count, s.Packed(), brief(got), next, brief(members), to)
	}
	return got, next
}

// told is all that the set tells, with every order.
func told(s *sset.Set, members []string) string {
	var b strings.Builder
	fmt.Fprintf(&b, "%d %t %q\n", s.Len(), s.Packed(), s.All())
	for i, c := range cursors {
		l, next := s.Scan(c, counts[i%len(counts)])
		fmt.Fprintf(&b, "%q %d\n", l, next)
	}
	for _, n := range draws {
		m, ok := s.Pick(n)
		fmt.Fprintf(&b, "%q %t\n", m, ok)
	}
	for _, m := range members {
		fmt.Fprintf(&b, "%t\n", s.Has(m))
	}
	return b.String()
}

// wantTold asks that the set tells what was told.
func wantTold(t *testing.T, s *sset.Set, members []string, was, name string) {
	t.Helper()
	if is := told(s, members); is != was {
		t.Fatalf("%s: the set tells %.300s\nit told %.300s", name, is, was)
	}
}

// play adds or removes one of the members, so many of 10 times an Add.
func play(t *testing.T, r *rand.Rand, s *sset.Set, w *model, members []string, adds int) {
	t.Helper()
	m := members[r.Intn(len(members))]
	if r.Intn(10) < adds {
		wantAdd(t, s, w, m)
	} else {
		wantRemove(t, s, w, m)
	}
	wantHas(t, s, w, m)
	wantHas(t, s, w, members[r.Intn(len(members))])
	wantPick(t, s, w, r.Uint64())
	if s.Len() != len(w.members) {
		t.Fatalf("P14.1: Len %d, want %d", s.Len(), len(w.members))
	}
}
