package quick_test

import (
	"math"
	"slices"
	"testing"

	"tallboy/api"
	"tallboy/quick"
)

// P12.1: a new list has nothing, whatever most is.
func TestNew(t *testing.T) {
	for _, most := range mosts() {
		l := quick.New(most)
		wantTexts(t, l, most)
		if len(l.Nodes()) != 0 {
			t.Errorf("P12.1: New(%d): Nodes %v", most, l.Nodes())
		}
	}
}

// P12.1: most below 1 is as 1: each text has a pack of its own. With most 2 and more one text has one, too.
func TestNodesOfOne(t *testing.T) {
	for _, most := range []int{math.MinInt, -128, -1, 0, 1} {
		l := made(t, most, names(20)...)
		if got := l.Nodes(); !slices.Equal(got, slices.Repeat([]int{1}, 20)) {
			t.Errorf("P12.1: most %d: Nodes %v", most, got)
		}
	}
	for _, most := range mosts() {
		if got := made(t, most, "a").Nodes(); !slices.Equal(got, []int{1}) {
			t.Errorf("P12.1: most %d: Nodes of one text: %v", most, got)
		}
	}
}

// The chapter's run, and others: each text goes ahead of all.
func TestLeft(t *testing.T) {
	for _, most := range mosts() {
		l := quick.New(most)
		if why := l.Left("a", "b"); why != api.OK {
			t.Errorf("P12.1: Left(a, b): %v", why)
		}
		wantTexts(t, l, most, "b", "a")
		if why := l.Left(); why != api.OK {
			t.Errorf("P12.1: Left of none: %v", why)
		}
		wantTexts(t, l, most, "b", "a")
		if why := l.Left("c"); why != api.OK {
			t.Errorf("P12.1: Left(c): %v", why)
		}
		wantTexts(t, l, most, "c", "b", "a")
		if why := l.Left(someTexts()...); why != api.OK {
			t.Errorf("P12.1: Left of several: %v", why)
		}
		wantTexts(t, l, most, joined(reversed(someTexts()), []string{"c", "b", "a"})...)
	}
}

// P12.1: each text goes behind all.
func TestRight(t *testing.T) {
	for _, most := range mosts() {
		l := quick.New(most)
		if why := l.Right("a", "b"); why != api.OK {
			t.Errorf("P12.1: Right(a, b): %v", why)
		}
		wantTexts(t, l, most, "a", "b")
		if why := l.Right([]string{}...); why != api.OK {
			t.Errorf("P12.1: Right of none: %v", why)
		}
		wantTexts(t, l, most, "a", "b")
		if why := l.Right("c"); why != api.OK {
			t.Errorf("P12.1: Right(c): %v", why)
		}
		if why := l.Right(someTexts()...); why != api.OK {
			t.Errorf("P12.1: Right of several: %v", why)
		}
		wantTexts(t, l, most, joined([]string{"a", "b", "c"}, someTexts())...)
	}
}

// P12.1: none and nothing, at an empty list's ends.
func TestNone(t *testing.T) {
	for _, most := range mosts() {
		l := quick.New(most)
		if l.Left() != api.OK || l.Right(nil...) != api.OK {
			t.Errorf("P12.1: most %d: no text refused", most)
		}
		wantTexts(t, l, most)
	}
}

// P12.1: a list grows at both ends by turns, far over one pack.
func TestBothEnds(t *testing.T) {
	for _, most := range mosts() {
		l := quick.New(most)
		var want []string
		for i, s := range names(300) {
			if i%3 == 0 {
				l.Left(s)
				want = joined([]string{s}, want)
			} else {
				l.Right(s)
				want = append(want, s)
			}
		}
		wantTexts(t, l, most, want...)
	}
}

// P12.1: a text of MaxEntry bytes is taken. One of one more is refused, and all that came with it, wherever it stands.
func TestTooLong(t *testing.T) {
	for _, most := range mosts() {
		for _, had := range [][]string{nil, {"a"}, {"a", "b", "c"}, names(9)} {
			l := made(t, most, had...)
			for _, s := range [][]string{{tooLong}, {"x", tooLong}, {tooLong, "x"}, {"x", "y", tooLong, "z"}, {tooLong, tooLong}, append(names(40), tooLong)} {
				wantRefused(t, l, api.ErrLong, "Left of one too long", func() api.Code { return l.Left(s...) })
				wantRefused(t, l, api.ErrLong, "Right of one too long", func() api.Code { return l.Right(s...) })
			}
			if l.Left("x", longest) != api.OK || l.Right(longest, "y") != api.OK {
				t.Errorf("P12.1: a text of MaxEntry bytes is refused")
			}
			wantTexts(t, l, most, joined([]string{longest, "x"}, had, []string{longest, "y"})...)
		}
	}
}

// The chapter's example: PopLeft of nothing; PopRight of nothing. The list goes on as before.
func TestPopOfNothing(t *testing.T) {
	for _, most := range mosts() {
		l := quick.New(most)
		for range 3 {
			if s, ok := l.PopLeft(); s != "" || ok {
				t.Errorf("P12.1: PopLeft of nothing: %q, %v", s, ok)
			}
			if s, ok := l.PopRight(); s != "" || ok {
				t.Errorf("P12.1: PopRight of nothing: %q, %v", s, ok)
			}
			wantTexts(t, l, most)
		}
		l.Right("a")
		wantTexts(t, l, most, "a")
	}
}

// P12.1: each end is popped until nothing is left, and the list filled again behind that.
func TestPopAll(t *testing.T) {
	for _, most := range mosts() {
		l := quick.New(most)
		for _, texts := range [][]string{{"a"}, {""}, names(2), names(40), someTexts()} {
			l.Right(texts...)
			for i, want := range texts {
				wantPop(t, l, "PopLeft", l.PopLeft, want)
				wantTexts(t, l, most, texts[i+1:]...)
			}
			l.Left(texts...)
			for i, want := range texts {
				wantPop(t, l, "PopRight", l.PopRight, want)
				wantTexts(t, l, most, reversed(texts[i+1:])...)
			}
			if s, ok := l.PopLeft(); s != "" || ok || l.Len() != 0 || len(l.Nodes()) != 0 {
				t.Errorf("P12.1: behind the last pop: %q, %v, %v", s, ok, l.Nodes())
			}
		}
	}
}

// P12.1: both ends are popped by turns.
func TestPopByTurns(t *testing.T) {
	for _, most := range mosts() {
		want := names(61)
		l := made(t, most, want...)
		for len(want) > 0 {
			wantPop(t, l, "PopLeft", l.PopLeft, want[0])
			want = want[1:]
			if len(want) == 0 {
				break
			}
			wantPop(t, l, "PopRight", l.PopRight, want[len(want)-1])
			want = want[:len(want)-1]
			wantTexts(t, l, most, want...)
		}
		wantTexts(t, l, most)
	}
}

func wantPop(t *testing.T, l *quick.List, name string, pop func() (string, bool), want string) {
	t.Helper()
	before := l.Len()
	if s, ok := pop(); s != want || !ok || l.Len() != before-1 {
		t.Fatalf("P12.1: %s of %d: %.20q, %v, and %d; want %.20q", name, before, s, ok, l.Len(), want)
	}
}
