package quick_test

import (
	"math/rand"
	"slices"
	"testing"

	"tallboy/api"
	"tallboy/quick"
)

// play makes one call by chance on a list that has the texts had, and tells which it must have then. What the call itself tells is held against them.
func play(t *testing.T, r *rand.Rand, l *quick.List, had []string) []string {
	t.Helper()
	texts := someTexts()
	s, pivot := chanceText(r, texts), chanceText(r, texts)
	had = slices.Clone(had)
	i, n := r.Intn(len(had)+1), r.Int63n(7)-3
	switch r.Intn(12) {
	case 0:
		l.Left(s, pivot)
		return joined([]string{pivot, s}, had)
	case 1, 2:
		l.Right(s, pivot, s)
		return append(had, s, pivot, s)
	case 3:
		got, ok := l.PopLeft()
		return afterPop(t, got, ok, had, 0)
	case 4:
		got, ok := l.PopRight()
		return afterPop(t, got, ok, had, len(had)-1)
	case 5, 6:
		place := int64(i)
		if r.Intn(2) == 0 {
			place -= int64(len(had))
		}
		if why := l.Set(place, s); (why == api.OK) != (place < int64(len(had)) && len(had) > 0) {
			t.Fatalf("P12.1: Set(%d) of %d: %v", place, len(had), why)
		} else if why == api.OK {
			had[i%len(had)] = s
		}
		return had
	case 7, 8:
		after := r.Intn(2) == 0
		want, there := beside(had, pivot, s, after)
		if got, why := l.Insert(pivot, s, after); why != api.OK || there && got != len(want) || !there && got != -1 {
			t.Fatalf("P12.2: Insert: %d, %v; want %d", got, why, len(want))
		}
		return want
	case 9:
		want := without(had, s, n)
		if got := l.Remove(s, n); got != len(had)-len(want) {
			t.Fatalf("P12.2: Remove(%.20q, %d): %d, want %d", s, n, got, len(had)-len(want))
		}
		return want
	case 10:
		a, b := n, int64(len(had))-r.Int63n(3)
		if r.Intn(2) == 0 {
			b -= int64(len(had)) + 1
		}
		want := piece(had, a, b)
		wantRange(t, l, a, b, want)
		l.Trim(a, b)
		return want
	}
	wantRefused(t, l, api.ErrLong, "Right of one too long", func() api.Code { return l.Right(s, tooLong) })
	return had
}

// afterPop is the texts without the i-th one, which a pop must have told.
func afterPop(t *testing.T, got string, ok bool, had []string, i int) []string {
	t.Helper()
	if len(had) == 0 {
		if got != "" || ok {
			t.Fatalf("P12.1: a pop of nothing: %.20q, %v", got, ok)
		}
		return had
	}
	if got != had[i] || !ok {
		t.Fatalf("P12.1: a pop: %.20q, %v; want %.20q", got, ok, had[i])
	}
	return slices.Delete(had, i, i+1)
}

// All promises at once: calls by chance, beside a plain list of texts.
func TestPlays(t *testing.T) {
	r := rand.New(rand.NewSource(12))
	for round := range 120 {
		most := mosts()[round%len(mosts())]
		l := quick.New(most)
		var want []string
		for range 150 {
			want = play(t, r, l, want)
			wantTexts(t, l, most, want...)
		}
	}
}

// The same with lists of more bytes than one pack has.
func TestLongPlays(t *testing.T) {
	r := rand.New(rand.NewSource(13))
	texts := someTexts()
	for round := range 24 {
		most := []int{5, 20, roomy}[round%3]
		var want []string
		for range 150 {
			want = append(want, texts[r.Intn(len(texts))])
		}
		l := made(t, most, want...)
		for range 60 {
			want = play(t, r, l, want)
			wantTexts(t, l, most, want...)
		}
	}
}
