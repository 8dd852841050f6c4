package quick_test

import (
	"math"
	"slices"
	"strings"
	"testing"

	"tallboy/api"
	"tallboy/quick"
)

// wantInsert inserts, and holds what is told and what there is then against the second reading.
func wantInsert(t *testing.T, l *quick.List, most int, pivot, s string, after bool) {
	t.Helper()
	want, there := beside(l.All(), pivot, s, after)
	count, nodes := len(want), l.Nodes()
	if !there {
		count = -1
	}
	if n, why := l.Insert(pivot, s, after); n != count || why != api.OK {
		t.Fatalf("P12.2: most %d: Insert(%.20q, %.20q, %v): %d, %v; want %d", most, pivot, s, after, n, why, count)
	}
	if !there && !slices.Equal(l.Nodes(), nodes) {
		t.Fatalf("P12.2: Insert with no such pivot changed the packs: %v, then %v", nodes, l.Nodes())
	}
	wantTexts(t, l, most, want...)
}

// P12.2: ahead of and behind each text, the first and the last ones too.
func TestInsert(t *testing.T) {
	for _, most := range mosts() {
		for _, n := range []int{1, 2, 3, 8, 30} {
			for i, pivot := range names(n) {
				s := someTexts()[i%len(someTexts())]
				wantInsert(t, made(t, most, names(n)...), most, pivot, s, false)
				wantInsert(t, made(t, most, names(n)...), most, pivot, s, true)
			}
		}
	}
}

// P12.2: written out: the first one that is pivot counts, wherever packs end.
func TestInsertWritten(t *testing.T) {
	for _, most := range mosts() {
		l := made(t, most, "a", "b", "a", "c", "a")
		for _, c := range []struct {
			pivot, s string
			after    bool
			n        int
			want     string
		}{
			{"a", "1", false, 6, "1 a b a c a"},
			{"a", "2", true, 7, "1 a 2 b a c a"},
			{"c", "3", true, 8, "1 a 2 b a c 3 a"},
			{"c", "4", false, 9, "1 a 2 b a 4 c 3 a"},
			{"1", "5", false, 10, "5 1 a 2 b a 4 c 3 a"},
			{"no", "6", false, -1, "5 1 a 2 b a 4 c 3 a"},
			{"no", "6", true, -1, "5 1 a 2 b a 4 c 3 a"},
			{"", "6", true, -1, "5 1 a 2 b a 4 c 3 a"},
			{"01", "6", true, -1, "5 1 a 2 b a 4 c 3 a"},
			{"5", "5", true, 11, "5 5 1 a 2 b a 4 c 3 a"},
			{"5", "a", true, 12, "5 a 5 1 a 2 b a 4 c 3 a"},
			{"a", "z", true, 13, "5 a z 5 1 a 2 b a 4 c 3 a"},
		} {
			n, why := l.Insert(c.pivot, c.s, c.after)
			if n != c.n || why != api.OK {
				t.Errorf("P12.2: most %d: Insert(%q, %q, %v): %d, %v; want %d", most, c.pivot, c.s, c.after, n, why, c.n)
			}
			wantTexts(t, l, most, strings.Fields(c.want)...)
		}
	}
}

// P12.2: no pivot in nothing; a pivot that no list can have.
func TestInsertNowhere(t *testing.T) {
	for _, most := range mosts() {
		for _, after := range []bool{false, true} {
			wantInsert(t, quick.New(most), most, "a", "s", after)
			wantInsert(t, quick.New(most), most, "", "", after)
			wantInsert(t, made(t, most, longest, "a"), most, tooLong, "s", after)
			wantInsert(t, made(t, most, names(40)...), most, "t40", "s", after)
		}
	}
}

// P12.2: ErrLong is told whether pivot is there or not, and the number beside it is 0.
func TestInsertTooLong(t *testing.T) {
	for _, most := range mosts() {
		for _, texts := range [][]string{nil, {"a"}, {"a", "b", "c"}} {
			for _, pivot := range []string{"a", "c", "no", "", tooLong} {
				for _, after := range []bool{false, true} {
					l := made(t, most, texts...)
					wantRefused(t, l, api.ErrLong, "Insert of one too long", func() api.Code {
						n, why := l.Insert(pivot, tooLong, after)
						if n != 0 {
							t.Errorf("R3: Insert told %d beside %v", n, why)
						}
						return why
					})
				}
			}
		}
	}
}

// P12.2: many inserts at one place, so that packs are full again and again.
func TestInsertMany(t *testing.T) {
	for _, most := range mosts() {
		for _, after := range []bool{false, true} {
			l := made(t, most, "a", "p", "b")
			want := []string{"a", "p", "b"}
			for _, s := range names(200) {
				want, _ = beside(want, "p", s, after)
				if n, why := l.Insert("p", s, after); n != len(want) || why != api.OK {
					t.Fatalf("P12.2: Insert: %d, %v; want %d", n, why, len(want))
				}
				wantNodes(t, l, most, want)
			}
			wantTexts(t, l, most, want...)
		}
	}
}

// wantRemove removes, and holds what is told and what there is then against the second reading.
func wantRemove(t *testing.T, l *quick.List, most int, s string, n int64) {
	t.Helper()
	had, nodes := l.All(), l.Nodes()
	want := without(had, s, n)
	gone := len(had) - len(want)
	if got := l.Remove(s, n); got != gone {
		t.Fatalf("P12.2: most %d: Remove(%.20q, %d): %d, want %d", most, s, n, got, gone)
	}
	if gone == 0 && !slices.Equal(l.Nodes(), nodes) {
		t.Fatalf("P12.2: Remove of none changed the packs: %v, then %v", nodes, l.Nodes())
	}
	wantTexts(t, l, most, want...)
}

// P12.2: from the front, from the back and of all; of fewer, as many and more than there are.
func TestRemove(t *testing.T) {
	lists := [][]string{nil, {"a"}, {"b"}, {"a", "a"}, {"a", "b", "a", "c", "a", "a", "b"}, {"b", "a", "a", "a", "a", "b"}, slices.Repeat([]string{"a"}, 30), slices.Repeat([]string{"a", "b", "", "7"}, 30), slices.Repeat(names(9), 9)}
	for _, most := range mosts() {
		for _, texts := range lists {
			for _, s := range []string{"a", "b", "", "7", "t3", "no", longest, tooLong} {
				for _, n := range append(ends(), 29, 30, 31, -29, -30, -31) {
					wantRemove(t, made(t, most, texts...), most, s, n)
				}
			}
		}
	}
}

// P12.2: written out, the chapter's example among them.
func TestRemoveWritten(t *testing.T) {
	for _, most := range mosts() {
		for _, c := range []struct {
			s    string
			n    int64
			gone int
			want string
		}{
			{"a", 1, 1, "b a c a a"}, {"a", 2, 2, "b c a a"}, {"a", 3, 3, "b c a"}, {"a", 4, 4, "b c"}, {"a", 5, 4, "b c"}, {"a", math.MaxInt64, 4, "b c"},
			{"a", -1, 1, "a b a c a"}, {"a", -2, 2, "a b a c"}, {"a", -3, 3, "a b c"}, {"a", -4, 4, "b c"}, {"a", -5, 4, "b c"}, {"a", math.MinInt64, 4, "b c"},
			{"a", 0, 4, "b c"}, {"x", 0, 0, "a b a c a a"}, {"x", 1, 0, "a b a c a a"}, {"x", -1, 0, "a b a c a a"},
			{"b", 0, 1, "a a c a a"}, {"c", -7, 1, "a b a a a"},
		} {
			l := made(t, most, "a", "b", "a", "c", "a", "a")
			if gone := l.Remove(c.s, c.n); gone != c.gone {
				t.Errorf("P12.2: most %d: Remove(%q, %d): %d, want %d", most, c.s, c.n, gone, c.gone)
			}
			wantTexts(t, l, most, strings.Fields(c.want)...)
		}
		if gone := quick.New(most).Remove("x", 0); gone != 0 {
			t.Errorf("P12.2: Remove(x, 0) of none: %d", gone)
		}
	}
}

// P12.2: whole packs are taken out of the midst and off the ends; the list goes on behind that.
func TestRemoveWholePacks(t *testing.T) {
	for _, most := range mosts() {
		for _, n := range []int64{0, 100, -100, 55, -55} {
			texts := joined(names(5), slices.Repeat([]string{"x"}, 40), names(5), slices.Repeat([]string{"x"}, 40))
			for _, way := range [][]string{texts, reversed(texts)} {
				l := made(t, most, way...)
				wantRemove(t, l, most, "x", n)
				l.Left("l")
				l.Right("r")
				wantTexts(t, l, most, joined([]string{"l"}, without(way, "x", n), []string{"r"})...)
			}
		}
	}
}

// Ways: packs that have lost texts are joined: what one pack has room for does not stand in many.
func TestJoined(t *testing.T) {
	for _, most := range []int{2, 4, 50} {
		l := made(t, most, slices.Repeat(joined([]string{"stays"}, slices.Repeat([]string{"goes"}, most-1)), 20)...)
		wantRemove(t, l, most, "goes", 0)
		if fewest := (20 + most - 1) / most; len(l.Nodes()) != fewest {
			t.Errorf("Ways: most %d: 20 texts stand in %v", most, l.Nodes())
		}
	}
}

// Ways: packs that are cut again and again are half full, or nearly: what is left of them is joined.
func TestCut(t *testing.T) {
	for _, most := range []int{2, 4, 50} {
		for _, after := range []bool{false, true} {
			l := made(t, most, names(most)...)
			for range 20 * most {
				wantInsert(t, l, most, "t1", "s", after)
			}
			if many := 2*l.Len()/most + 1; len(l.Nodes()) > many {
				t.Errorf("Ways: most %d: %d texts stand in %d packs", most, l.Len(), len(l.Nodes()))
			}
		}
	}
}

// Ways: what is cut off is joined with the pack beside it, on both sides.
func TestCutAndJoined(t *testing.T) {
	l := made(t, 4, "a", "b", "c", "d", "e")
	wantInsert(t, l, 4, "c", "s", true)
	m := made(t, 4, "a", "b", "c", "d")
	m.Left("e")
	wantInsert(t, m, 4, "b", "s", false)
	if len(l.Nodes()) != 2 || len(m.Nodes()) != 2 {
		t.Errorf("Ways: six texts, four a pack, stand in %v and in %v", l.Nodes(), m.Nodes())
	}
}
