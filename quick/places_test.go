package quick_test

import (
	"math"
	"slices"
	"strings"
	"testing"

	"tallboy/api"
	"tallboy/quick"
)

// P12.1: each place, from both ends, and the places past them.
func TestAt(t *testing.T) {
	for _, most := range mosts() {
		for _, n := range []int{0, 1, 2, 3, 8, 30} {
			texts := names(n)
			l := made(t, most, texts...)
			for i := range int64(n) {
				wantAt(t, l, i, texts[i], true)
				wantAt(t, l, i-int64(n), texts[i], true)
			}
			for _, i := range ends() {
				if i >= int64(n) || i < -int64(n) {
					wantAt(t, l, i, "", false)
				}
			}
			wantAt(t, l, int64(n), "", false)
			wantAt(t, l, -int64(n)-1, "", false)
			wantTexts(t, l, most, texts...)
		}
	}
}

// P12.1: an empty text is there.
func TestAtEmptyText(t *testing.T) {
	for _, most := range mosts() {
		l := made(t, most, "", "a", "")
		wantAt(t, l, 0, "", true)
		wantAt(t, l, -1, "", true)
		wantAt(t, l, 3, "", false)
	}
}

// P12.1: a text of any size in the place of each text, counted from both ends.
func TestSet(t *testing.T) {
	for _, most := range mosts() {
		for _, n := range []int{1, 2, 3, 8, 30} {
			l := made(t, most, names(n)...)
			want := names(n)
			for i := range n {
				s := someTexts()[i%len(someTexts())]
				want[i] = s
				wantSet(t, l, int64(i), s)
				wantTexts(t, l, most, want...)
				want[n-1-i] = s + "e"
				if len(s) == api.MaxEntry {
					want[n-1-i] = s
				}
				wantSet(t, l, int64(-1-i), want[n-1-i])
				wantTexts(t, l, most, want...)
			}
		}
	}
}

func wantSet(t *testing.T, l *quick.List, i int64, s string) {
	t.Helper()
	if why := l.Set(i, s); why != api.OK {
		t.Fatalf("P12.1: Set(%d, %.20q) of %d: %v", i, s, l.Len(), why)
	}
}

// P12.1: Set at no place: ErrIndex, even of a text that is too long; at a place, ErrLong of that.
func TestSetRefused(t *testing.T) {
	for _, most := range mosts() {
		for _, n := range []int{0, 1, 2, 3, 8} {
			l := made(t, most, names(n)...)
			places := append(ends(), int64(n), int64(n)+1, int64(-n)-1, int64(-n)-2)
			for _, i := range places {
				want := api.ErrLong
				if i >= int64(n) || i < -int64(n) {
					want = api.ErrIndex
					wantRefused(t, l, want, "Set at no place", func() api.Code { return l.Set(i, "s") })
				}
				wantRefused(t, l, want, "Set of one too long", func() api.Code { return l.Set(i, tooLong) })
				wantRefused(t, l, want, "Set of one far too long", func() api.Code { return l.Set(i, strings.Repeat("1", api.MaxText+1)) })
			}
		}
	}
}

// P12.2: every span of lists of few texts.
func TestRange(t *testing.T) {
	for _, most := range mosts() {
		for _, n := range []int{0, 1, 2, 3, 8} {
			texts := names(n)
			l := made(t, most, texts...)
			for _, a := range ends() {
				for _, b := range ends() {
					wantRange(t, l, a, b, piece(texts, a, b))
				}
			}
			wantTexts(t, l, most, texts...)
		}
	}
}

func wantRange(t *testing.T, l *quick.List, a, b int64, want []string) {
	t.Helper()
	if got := l.Range(a, b); !slices.Equal(got, want) {
		t.Fatalf("P12.2: Range(%d, %d) of %d: %s; want %s", a, b, l.Len(), brief(got), brief(want))
	}
}

// P12.2: written out.
func TestRangeWritten(t *testing.T) {
	for _, most := range mosts() {
		l := made(t, most, "a", "b", "c", "d", "e")
		for _, c := range []struct {
			a, b int64
			want string
		}{
			{0, -1, "abcde"}, {0, 0, "a"}, {-1, -1, "e"}, {1, 3, "bcd"}, {-3, -2, "cd"}, {-99, 1, "ab"}, {3, 99, "de"}, {-99, 99, "abcde"},
			{4, 4, "e"}, {5, 9, ""}, {3, 2, ""}, {-1, -2, ""}, {-9, -6, ""}, {-9, -5, "a"}, {0, -5, "a"}, {0, -6, ""},
			{math.MinInt64, math.MaxInt64, "abcde"}, {math.MaxInt64, math.MinInt64, ""}, {math.MinInt64, math.MinInt64, ""}, {math.MaxInt64, math.MaxInt64, ""},
		} {
			if got := strings.Join(l.Range(c.a, c.b), ""); got != c.want {
				t.Errorf("P12.2: most %d: Range(%d, %d): %q, want %q", most, c.a, c.b, got, c.want)
			}
		}
	}
}

// P12.2: spans over many packs, and within one that has many texts.
func TestRangeOfMany(t *testing.T) {
	texts := names(400)
	for _, most := range mosts() {
		l := made(t, most, texts...)
		for a := int64(-401); a < 402; a += 13 {
			for b := int64(-401); b < 402; b += 17 {
				wantRange(t, l, a, b, piece(texts, a, b))
			}
		}
	}
}

// P12.2: Trim leaves just what Range had.
func TestTrim(t *testing.T) {
	for _, most := range mosts() {
		for _, n := range []int{0, 1, 2, 3, 8} {
			texts := names(n)
			for _, a := range ends() {
				for _, b := range ends() {
					l := made(t, most, texts...)
					l.Trim(a, b)
					wantTexts(t, l, most, piece(texts, a, b)...)
				}
			}
		}
	}
}

// P12.2: Trim goes on with a list that was trimmed, and one that has nothing takes texts again.
func TestTrimAgain(t *testing.T) {
	for _, most := range mosts() {
		want := names(300)
		l := made(t, most, want...)
		for _, c := range []struct{ a, b int64 }{{0, -1}, {-999, 999}, {1, -1}, {0, -2}, {40, -37}, {-200, 199}, {3, 101}, {50, 50}, {0, 0}, {1, 0}, {0, -1}} {
			l.Trim(c.a, c.b)
			want = piece(want, c.a, c.b)
			wantTexts(t, l, most, want...)
		}
		l.Right("x")
		l.Left("y")
		wantTexts(t, l, most, "y", "x")
	}
}
