package quick_test

import (
	"slices"
	"strconv"
	"strings"
	"testing"

	"tallboy/api"
	"tallboy/quick"
)

// roomy is more texts than a pack has bytes for: only the bytes say when it is full.
const roomy = 100000

// P12.1: texts whose entries fill a pack to its last byte, or nearly, or are a byte more: nothing is lost.
func TestFullAtTheEnds(t *testing.T) {
	for bytes := api.MaxPack - 70; bytes <= api.MaxPack+5; bytes++ {
		texts := filled(bytes)
		l := made(t, roomy, texts...)
		wantTexts(t, l, roomy, texts...)
		for _, s := range []string{"5", "300", "", longest} {
			c := l.Copy()
			c.Right(s)
			wantTexts(t, c, roomy, append(slices.Clone(texts), s)...)
			c.Left(s)
			wantTexts(t, c, roomy, joined([]string{s}, texts, []string{s})...)
		}
		left := quick.New(roomy)
		left.Left(texts...)
		wantTexts(t, left, roomy, reversed(texts)...)
	}
}

// P12.1, P12.2: a text is put into every gap of a pack that is full to its last byte, and in the place of each text.
func TestFullInTheMidst(t *testing.T) {
	for _, texts := range [][]string{filled(api.MaxPack), filled(api.MaxPack - 1), reversed(filled(api.MaxPack))} {
		for i := range texts {
			texts := slices.Clone(texts)
			texts[i] = "p"
			full := made(t, roomy, texts...)
			for _, s := range []string{"5", longest} {
				for _, after := range []bool{false, true} {
					wantInsert(t, full.Copy(), roomy, "p", s, after)
				}
				l := full.Copy()
				want := slices.Clone(texts)
				want[i] = s
				wantSet(t, l, int64(i), s)
				wantTexts(t, l, roomy, want...)
				wantSet(t, l, int64(i-len(want)), s+s[len(s):])
				wantTexts(t, l, roomy, want...)
			}
		}
	}
}

// P12.1: short texts of a full pack are made the longest, one behind the other, from both ends.
func TestFullSetLonger(t *testing.T) {
	for _, most := range []int{3, 20, 1000, roomy} {
		want := slices.Repeat([]string{strings.Repeat("s", 63)}, api.MaxPack/65)
		l := made(t, most, want...)
		for i := range 60 {
			at := i * 16
			if i%2 == 1 {
				at = len(want) - 1 - at
			}
			want[at] = longest
			if i%3 == 0 {
				at -= len(want)
			}
			wantSet(t, l, int64(at), longest)
			wantTexts(t, l, most, want...)
		}
	}
}

// P12.1: a text of one byte more, in the place of each text of a pack that is full to its last byte.
func TestFullSetOneByteMore(t *testing.T) {
	texts := filled(api.MaxPack)
	for i, s := range texts {
		more := s + "x"
		if len(s) == api.MaxEntry {
			continue
		}
		l := made(t, roomy, texts...)
		want := slices.Clone(texts)
		want[i] = more
		wantSet(t, l, int64(i), more)
		wantTexts(t, l, roomy, want...)
	}
}

// P12.1: packs of the longest texts alone, of which sixteen are more than a pack has bytes for.
func TestLongestTexts(t *testing.T) {
	for _, most := range []int{1, 2, 15, 16, 17, roomy} {
		l := quick.New(most)
		var want []string
		for i := range 70 {
			s := strconv.Itoa(i) + longest
			s = s[:api.MaxEntry]
			if i%2 == 0 {
				l.Left(s)
				want = joined([]string{s}, want)
			} else {
				l.Right(s)
				want = append(want, s)
			}
		}
		wantTexts(t, l, most, want...)
		for i, pivot := range slices.Clone(want) {
			s := strconv.Itoa(i) + "y" + longest
			s = s[:api.MaxEntry]
			want, _ = beside(want, pivot, s, i%3 == 0)
			if n, why := l.Insert(pivot, s, i%3 == 0); n != len(want) || why != api.OK {
				t.Fatalf("P12.2: Insert: %d, %v; want %d", n, why, len(want))
			}
			wantTexts(t, l, most, want...)
		}
		wantRemove(t, l, most, want[30], 0)
		wantRemove(t, l, most, want[7], -1)
	}
}

// P12.2: packs of a full one's bytes, of some fewer and of some more: they are joined if one pack has room for both, and nothing is lost.
func TestFullJoined(t *testing.T) {
	goes := strings.Repeat("g", api.MaxEntry)
	first := filled(api.MaxPack - 8*size(goes))
	for more := -70; more <= 70; more++ {
		second := filled(8*size(goes) + more)
		for _, n := range []int64{0, 8, -8} {
			l := made(t, roomy, joined(first, slices.Repeat([]string{goes}, 8), second)...)
			wantRemove(t, l, roomy, goes, n)
			wantTexts(t, l, roomy, joined(first, second)...)
		}
	}
}
