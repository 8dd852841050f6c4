package ctrl_test

import (
	"encoding/binary"
	"math"
	"math/rand"
	"slices"
	"testing"

	"tallboy/api"
	"tallboy/ctrl"
)

// Words whose slots are all alike, and whose slots are all different.
const (
	allEmpty   = 0x8080808080808080
	allDeleted = 0xfefefefefefefefe
	allZero    = 0
	allSeven   = 0x7f7f7f7f7f7f7f7f
	allOnes    = 0xffffffffffffffff
	rising     = 0x0706050403020100
	mixed      = 0xff81fe807f7e0100
)

// noSlots are numbers that no slot has; the powers of two among them are 0 where a shift or a number of fewer bits takes them.
var noSlots = []int{
	math.MinInt, math.MinInt + 1, math.MinInt64 / 8, math.MinInt32, -1 << 32, -256, -64, -9, -8, -7, -2, -1,
	api.Slots, api.Slots + 1, 15, 16, 31, 32, 63, 64, 255, 256, 1 << 16, math.MaxInt32, 1 << 32, 1 << 40, 1 << 61, 1<<61 + 3, math.MaxInt - 1, math.MaxInt,
}

// bytesOf is the word as bytes, the lowest first, worked out elsewhere.
func bytesOf(w ctrl.Word) [8]byte {
	var b [8]byte
	binary.LittleEndian.PutUint64(b[:], uint64(w))
	return b
}

// wordOf is the word of these bytes, the lowest first.
func wordOf(b [8]byte) ctrl.Word {
	return ctrl.Word(binary.LittleEndian.Uint64(b[:]))
}

// slotsThat is the slots whose byte is as asked.
func slotsThat(w ctrl.Word, asked func(byte) bool) []int {
	var slots []int
	for i, b := range bytesOf(w) {
		if asked(b) {
			slots = append(slots, i)
		}
	}
	return slots
}

// grounds are words for one slot to be set in: all alike, different, and of chance.
func grounds() []ctrl.Word {
	l := []ctrl.Word{allEmpty, allDeleted, allZero, allSeven, allOnes, rising, mixed, 0x0101010101010101, 0x55aa55aa55aa55aa, 0x8000000000000000, 0x80, 0xfe80fe80fe80fe80, 0x7f807f807f807f80}
	r := rand.New(rand.NewSource(7))
	for range 20 {
		l = append(l, ctrl.Word(r.Uint64()))
	}
	return l
}

// words are the grounds with each byte in each slot of some, words of one single bit, words of the edges' bytes by chance, and words of any bits.
func words() []ctrl.Word {
	l := grounds()
	for _, ground := range grounds()[:8] {
		for i := range 8 {
			for c := range 256 {
				b := bytesOf(ground)
				b[i] = byte(c)
				l = append(l, wordOf(b))
			}
		}
	}
	for shift := range 64 {
		l = append(l, 1<<shift, allOnes^1<<shift)
	}
	r := rand.New(rand.NewSource(71))
	edges := []byte{0, 1, 126, 127, 128, 129, 253, 254, 255}
	for range 3000 {
		var b [8]byte
		for i := range b {
			b[i] = edges[r.Intn(len(edges))]
		}
		l = append(l, wordOf(b), ctrl.Word(r.Uint64()))
	}
	return l
}

func wantSlots(t *testing.T, call string, w ctrl.Word, got, want []int) {
	t.Helper()
	if !slices.Equal(got, want) {
		t.Errorf("P7.1: %s of %#016x: %v, want %v", call, uint64(w), got, want)
	}
}

func wantWord(t *testing.T, call string, w, got, want ctrl.Word) {
	t.Helper()
	if got != want {
		t.Errorf("P7.1: %s of %#016x: %#016x, want %#016x", call, uint64(w), uint64(got), uint64(want))
	}
}

// P7.1: the two bytes that are no full slot's.
func TestBytes(t *testing.T) {
	if ctrl.Empty != 128 || ctrl.Deleted != 254 {
		t.Errorf("P7.1: Empty %d, Deleted %d", ctrl.Empty, ctrl.Deleted)
	}
}

// P7.1: New is Empty in every slot, each time.
func TestNew(t *testing.T) {
	for range 2 {
		w := ctrl.New()
		if w != allEmpty {
			t.Errorf("P7.1: New: %#016x", uint64(w))
		}
		for i := range api.Slots {
			if w.At(i) != ctrl.Empty {
				t.Errorf("P7.1: New, At(%d): %d", i, w.At(i))
			}
		}
		if w.Count() != 0 || !w.HasEmpty() || w.Clean() != w {
			t.Errorf("P7.1: New: Count %d, HasEmpty %t, Clean %#016x", w.Count(), w.HasEmpty(), uint64(w.Clean()))
		}
		wantSlots(t, "Free", w, w.Free(), []int{0, 1, 2, 3, 4, 5, 6, 7})
		w.Set(0, 1)
	}
}

// P7.1: the chapter's run and examples.
func TestRuns(t *testing.T) {
	w := ctrl.New().Set(3, 5)
	wantSlots(t, "Match(5)", w, w.Match(5), []int{3})
	if n := ctrl.New().Count(); n != 0 {
		t.Errorf("P7.1: New().Count(): %d", n)
	}
	wantWord(t, "Set(8, 1)", w, w.Set(8, 1), w)
}

// P7.1: At is the bits 8i to 8i + 7.
func TestAt(t *testing.T) {
	for i, want := range []byte{0, 1, 126, 127, 128, 254, 129, 255} {
		if got := ctrl.Word(mixed).At(i); got != want {
			t.Errorf("P7.1: At(%d): %d, want %d", i, got, want)
		}
	}
	for _, w := range words() {
		for i, want := range bytesOf(w) {
			if got := w.At(i); got != want {
				t.Errorf("P7.1: At(%d) of %#016x: %d, want %d", i, uint64(w), got, want)
			}
		}
	}
}

// P7.1: At of a slot that is none is Empty, whatever the word is.
func TestAtNoSlot(t *testing.T) {
	for _, w := range grounds() {
		for _, i := range noSlots {
			if got := w.At(i); got != ctrl.Empty {
				t.Errorf("P7.1: At(%d) of %#016x: %d", i, uint64(w), got)
			}
		}
	}
}

// P7.1: Set, by numbers that are written out.
func TestSet(t *testing.T) {
	for _, c := range []struct {
		w    ctrl.Word
		i    int
		b    byte
		want ctrl.Word
	}{
		{allEmpty, 0, 5, 0x8080808080808005},
		{allEmpty, 3, 5, 0x8080808005808080},
		{allEmpty, 7, 5, 0x0580808080808080},
		{allEmpty, 0, 0, 0x8080808080808000},
		{allEmpty, 7, 0, 0x0080808080808080},
		{allEmpty, 7, 255, 0xff80808080808080},
		{allOnes, 0, 0, 0xffffffffffffff00},
		{allOnes, 4, 127, 0xffffff7fffffffff},
		{allOnes, 7, 0, 0x00ffffffffffffff},
		{allZero, 7, ctrl.Empty, 0x8000000000000000},
		{allZero, 6, ctrl.Deleted, 0x00fe000000000000},
		{allZero, 5, 253, 0x0000fd0000000000},
		{rising, 1, 255, 0x070605040302ff00},
		{rising, 2, 2, rising},
		{allDeleted, 7, ctrl.Empty, 0x80fefefefefefefe},
	} {
		wantWord(t, "Set", c.w, c.w.Set(c.i, c.b), c.want)
	}
}

// P7.1: each byte in each slot over each ground, with no other slot turned, nor the word that it was set in.
func TestSetEverywhere(t *testing.T) {
	for _, w := range grounds() {
		was := w
		for i := range api.Slots {
			for c := range 256 {
				b := bytesOf(w)
				b[i] = byte(c)
				got := w.Set(i, byte(c))
				wantWord(t, "Set", w, got, wordOf(b))
				if got.At(i) != byte(c) {
					t.Errorf("P7.1: Set(%d, %d), At(%d): %d", i, c, i, got.At(i))
				}
				wantWord(t, "Set, Set back", w, got.Set(i, w.At(i)), w)
			}
		}
		wantWord(t, "Set, the word itself", was, w, was)
	}
}

// P7.1: each byte over each other one in one slot.
func TestSetOver(t *testing.T) {
	for i := range api.Slots {
		for c := range 256 {
			under := ctrl.Word(rising).Set(i, byte(c))
			for d := range 256 {
				b := bytesOf(rising)
				b[i] = byte(d)
				wantWord(t, "Set over", under, under.Set(i, byte(d)), wordOf(b))
			}
		}
	}
}

// P7.1: Set of a slot that is none is the word as it is.
func TestSetNoSlot(t *testing.T) {
	for _, w := range grounds() {
		for _, i := range noSlots {
			for _, b := range []byte{0, 1, 127, ctrl.Empty, 253, ctrl.Deleted, 255} {
				wantWord(t, "Set of no slot", w, w.Set(i, b), w)
			}
		}
	}
}

// P7.1: Match of a byte that none, one, several and all slots have, next to bytes that differ by one bit or by one.
func TestMatch(t *testing.T) {
	all := []int{0, 1, 2, 3, 4, 5, 6, 7}
	for _, c := range []struct {
		w    ctrl.Word
		b    byte
		want []int
	}{
		{allEmpty, ctrl.Empty, all},
		{allEmpty, ctrl.Deleted, nil},
		{allEmpty, 0, nil},
		{allDeleted, ctrl.Deleted, all},
		{allDeleted, ctrl.Empty, nil},
		{allDeleted, 126, nil},
		{allZero, 0, all},
		{allZero, ctrl.Empty, nil},
		{allSeven, 127, all},
		{allSeven, 255, nil},
		{allOnes, 255, all},
		{allOnes, 127, nil},
		{0x0505050505050505, 5, all},
		{0x0505050505050505, 4, nil},
		{rising, 0, []int{0}},
		{rising, 4, []int{4}},
		{rising, 7, []int{7}},
		{rising, 8, nil},
		{mixed, ctrl.Empty, []int{4}},
		{mixed, ctrl.Deleted, []int{5}},
		{mixed, 129, []int{6}},
		{mixed, 255, []int{7}},
		{0x0500050005000500, 5, []int{1, 3, 5, 7}},
		{0x0500050005000500, 0, []int{0, 2, 4, 6}},
		{0x0580808080808005, 5, []int{0, 7}},
		{0x0101010101010100, 0, []int{0}},
		{0x0101010101010100, 1, []int{1, 2, 3, 4, 5, 6, 7}},
		{0x0504050405040405, 5, []int{0, 3, 5, 7}},
		{0x80fe80fe80fe8080, ctrl.Empty, []int{0, 1, 3, 5, 7}},
		{0x80fe80fe80fe8080, ctrl.Deleted, []int{2, 4, 6}},
	} {
		wantSlots(t, "Match", c.w, c.w.Match(c.b), c.want)
	}
}

// P7.1: Match of every byte, there or not.
func TestMatchEverywhere(t *testing.T) {
	for _, w := range words() {
		near := []byte{0, 1, 127, 128, 129, 253, 254, 255}
		for _, b := range bytesOf(w) {
			near = append(near, b, b+1, b-1, b^128)
		}
		for _, b := range near {
			wantSlots(t, "Match", w, w.Match(b), slotsThat(w, func(x byte) bool { return x == b }))
		}
	}
	for _, w := range grounds() {
		for c := range 256 {
			wantSlots(t, "Match", w, w.Match(byte(c)), slotsThat(w, func(x byte) bool { return x == byte(c) }))
		}
	}
}

// P7.1: Free, HasEmpty and Count of words that are all full, all Empty, all Deleted, mixed, and with bytes from 128 on that are neither.
func TestFreeHasEmptyCount(t *testing.T) {
	all := []int{0, 1, 2, 3, 4, 5, 6, 7}
	for _, c := range []struct {
		w     ctrl.Word
		free  []int
		empty bool
		count int
	}{
		{allZero, nil, false, 8},
		{allSeven, nil, false, 8},
		{rising, nil, false, 8},
		{allEmpty, all, true, 0},
		{allDeleted, all, false, 0},
		{allOnes, all, false, 0},
		{0x8181818181818181, all, false, 0},
		{0xfdfdfdfdfdfdfdfd, all, false, 0},
		{0xfefefefefefefe80, all, true, 0},
		{0x80fefefefefefefe, all, true, 0},
		{0x81ff81ff80ff81ff, all, true, 0},
		{mixed, []int{4, 5, 6, 7}, true, 4},
		{0x00000000000000fe, []int{0}, false, 7},
		{0xfe00000000000000, []int{7}, false, 7},
		{0x7f7f7f807f7f7f7f, []int{4}, true, 7},
		{0x7f7f7ffd7f7f7f7f, []int{4}, false, 7},
		{0x00807ffe00817fff, []int{0, 2, 4, 6}, true, 4},
		{0x7fffffffffffffff, []int{0, 1, 2, 3, 4, 5, 6}, false, 1},
		{0x8080808080808000, []int{1, 2, 3, 4, 5, 6, 7}, true, 1},
	} {
		wantSlots(t, "Free", c.w, c.w.Free(), c.free)
		if got := c.w.HasEmpty(); got != c.empty {
			t.Errorf("P7.1: HasEmpty of %#016x: %t", uint64(c.w), got)
		}
		if got := c.w.Count(); got != c.count {
			t.Errorf("P7.1: Count of %#016x: %d, want %d", uint64(c.w), got, c.count)
		}
	}
}

// P7.1: Free is the bytes from 128 on.
func TestFreeEverywhere(t *testing.T) {
	for _, w := range words() {
		wantSlots(t, "Free", w, w.Free(), slotsThat(w, func(b byte) bool { return b >= 128 }))
	}
}

// P7.1: HasEmpty asks for 128 alone, in any slot.
func TestHasEmptyEverywhere(t *testing.T) {
	for _, w := range words() {
		b := bytesOf(w)
		if got, want := w.HasEmpty(), slices.Contains(b[:], 128); got != want {
			t.Errorf("P7.1: HasEmpty of %#016x: %t", uint64(w), got)
		}
	}
}

// P7.1: Count is the bytes below 128: with Free, each slot once.
func TestCountEverywhere(t *testing.T) {
	for _, w := range words() {
		want := len(slotsThat(w, func(b byte) bool { return b < 128 }))
		if got := w.Count(); got != want || got+len(w.Free()) != api.Slots {
			t.Errorf("P7.1: Count of %#016x: %d, want %d", uint64(w), got, want)
		}
	}
}

// P7.1: Clean of words with and without Deleted.
func TestClean(t *testing.T) {
	for _, c := range []struct{ w, want ctrl.Word }{
		{allEmpty, allEmpty},
		{allDeleted, allEmpty},
		{allZero, allZero},
		{allSeven, allSeven},
		{allOnes, allOnes},
		{rising, rising},
		{0x8181818181818181, 0x8181818181818181},
		{0xfdfdfdfdfdfdfdfd, 0xfdfdfdfdfdfdfdfd},
		{0x7e7e7e7e7e7e7e7e, 0x7e7e7e7e7e7e7e7e},
		{mixed, 0xff8180807f7e0100},
		{0xfe000000000000fe, 0x8000000000000080},
		{0x00000000000000fe, 0x0000000000000080},
		{0xfe00000000000000, 0x8000000000000000},
		{0xfffefdfefffefdfe, 0xff80fd80ff80fd80},
		{0x0fe00fe00fe00fe0, 0x0fe00fe00fe00fe0}, // fe, but between two slots
	} {
		wantWord(t, "Clean", c.w, c.w.Clean(), c.want)
	}
}

// P7.1: Clean turns each Deleted, and nothing else; what was cleaned stays; what is full is as it was.
func TestCleanEverywhere(t *testing.T) {
	for _, w := range words() {
		b := bytesOf(w)
		for i := range b {
			if b[i] == 254 {
				b[i] = 128
			}
		}
		got := w.Clean()
		wantWord(t, "Clean", w, got, wordOf(b))
		wantWord(t, "Clean of a cleaned one", w, got.Clean(), got)
		wantSlots(t, "Clean, Match(Deleted)", w, got.Match(ctrl.Deleted), nil)
		wantSlots(t, "Clean, Free", w, got.Free(), w.Free())
		if got.Count() != w.Count() {
			t.Errorf("P7.1: Clean of %#016x: Count %d, was %d", uint64(w), got.Count(), w.Count())
		}
	}
}

// P7.1, R2, R4: lists are new each time, with their spare room, and hang on the word alone.
func TestListsByThemselves(t *testing.T) {
	for _, w := range grounds() {
		for _, list := range []func() []int{w.Free, func() []int { return w.Match(ctrl.Empty) }, func() []int { return w.Match(w.At(3)) }} {
			first := list()
			want := slices.Clone(first)
			second := list()
			whole := first[:cap(first)]
			for i := range whole {
				whole[i] = -1
			}
			wantSlots(t, "a list told ahead", w, second, want)
			wantSlots(t, "a list told again", w, list(), want)
		}
	}
}
