package reply_test

import (
	"math"
	"slices"
	"testing"

	"tallboy/api"
	"tallboy/reply"
)

func TestSortedOfSingles(t *testing.T) {
	for _, x := range singles() {
		wantSorted(t, x, x)
		for _, y := range fillings(x) {
			wantSorted(t, y, x)
		}
	}
}

// rising are replies in the order that sets have them.
func rising() []api.Reply {
	l := []api.Reply{of(math.MinInt), of(-1 << 32), of(-1), of(0)}
	for _, kind := range withText[:2] {
		for _, s := range inOrder(texts) {
			l = append(l, api.Reply{Kind: kind, S: s})
		}
	}
	for _, n := range numbers {
		l = append(l, reply.Int(n))
	}
	for _, s := range inOrder(texts) {
		l = append(l, reply.Bulk(s))
	}
	l = append(l, null, nullArray)
	for _, kind := range withParts {
		l = append(l, of(kind))
		if kind == api.Array {
			l = append(l, array(one), array(one, one), array(one, one, one), array(one, two), array(one, a), array(two), array(two, one), array(b, a), array(null), array(array()))
			continue
		}
		l = append(l, of(kind, one), of(kind, one, one), of(kind, one, one, one), of(kind, one, two), of(kind, one, a), of(kind, two), of(kind, two, two), of(kind, a), of(kind, a, b), of(kind, null), of(kind, array()))
	}
	return append(l, of(10), of(99), of(math.MaxInt))
}

// inOrder is a sorted one.
func inOrder(l []string) []string {
	return slices.Sorted(slices.Values(l))
}

func TestSortedRises(t *testing.T) {
	l := rising()
	wantSorted(t, set(l...), set(l...))
	back := slices.Clone(l)
	slices.Reverse(back)
	wantSorted(t, set(back...), set(l...))
	for i, x := range l {
		for k, y := range l {
			lower, upper := l[min(i, k)], l[max(i, k)]
			wantSorted(t, set(x, y), set(lower, upper))
			wantSorted(t, pairs(x, y), pairs(x, y))
			wantSorted(t, array(x, y), array(x, y))
			wantSorted(t, pairs(x, one, y, one), pairs(lower, one, upper, one))
			wantSorted(t, pairs(a, x, a, y), pairs(a, lower, a, upper))
			wantSorted(t, set(array(one, x), array(one, y)), set(array(one, lower), array(one, upper)))
			wantSorted(t, pairs(x, y, y, x), pairs(lower, upper, upper, lower))
		}
	}
}

func TestSortedLeavesOutWhatAKindHasNot(t *testing.T) {
	l := rising()
	for i, x := range l {
		for k, y := range l {
			lower, upper := l[min(i, k)], l[max(i, k)]
			wantSorted(t, set(filled(x, "\xff", math.MaxInt64, []api.Reply{b, a}), filled(y, "", math.MinInt64, nil)), set(lower, upper))
			wantSorted(t, set(filled(y, "", math.MinInt64, nil), filled(x, "\xff", math.MaxInt64, []api.Reply{b, a})), set(lower, upper))
		}
	}
}

func TestSortedInEachOrder(t *testing.T) {
	for _, parts := range [][]api.Reply{
		{}, {a}, {one, a}, {one, a, b}, {one, two, a, b, null, set()}, {one, one, a, a, a}, {a, a, a, a},
		{array(a), array(a, a), array(b), set(), set(a)}, {pairs(), pairs(a, one), pairs(a, two), set(a, b), set(a, c)},
	} {
		for _, turn := range turns(parts) {
			wantSorted(t, set(turn...), set(parts...))
			wantSorted(t, array(turn...), array(turn...))
		}
	}
	for _, list := range [][][]api.Reply{
		{}, {{b, a}}, {{a, two}, {b, one}}, {{a, one}, {a, two}, {b, one}, {b, two}}, {{a, one}, {a, one}, {a, two}, {c, one}, {c, one}},
		{{one, b}, {a, set()}, {a, set(a)}, {set(), a}},
	} {
		for _, turn := range pairTurns(list) {
			wantSorted(t, pairs(turn...), pairs(flat(list)...))
			for _, last := range []api.Reply{one, b, set(a, b), of(-5), of(99)} {
				wantSorted(t, pairs(slices.Concat(turn, []api.Reply{last})...), pairs(slices.Concat(flat(list), []api.Reply{last})...))
			}
			wantSorted(t, pairs(slices.Concat(turn, []api.Reply{set(b, a)})...), pairs(slices.Concat(flat(list), []api.Reply{set(a, b)})...))
		}
	}
}

func TestSortedInnerOnesFirst(t *testing.T) {
	// By what they were handed in as, the first would stay ahead of the second.
	wantSorted(t, set(set(b, c), set(c, a)), set(set(a, c), set(b, c)))
	wantSorted(t, set(array(set(b, c)), array(set(c, a))), set(array(set(a, c)), array(set(b, c))))
	wantSorted(t, pairs(set(b, c), one, set(c, a), two), pairs(set(a, c), two, set(b, c), one))
	wantSorted(t, pairs(a, set(b, c), a, set(c, a)), pairs(a, set(a, c), a, set(b, c)))
	wantSorted(t, set(pairs(b, one, c, one), pairs(c, one, a, one)), set(pairs(a, one, c, one), pairs(b, one, c, one)))
	wantSorted(t, array(set(b, a), pairs(b, set(two, one), a, one), b, a), array(set(a, b), pairs(a, one, b, set(one, two)), b, a))
	wantSorted(t, set(set(set(b, c), b), set(c, set(c, a))), set(set(b, set(b, c)), set(c, set(a, c))))
	wantSorted(t, pairs(set(b, a)), pairs(set(a, b)))
	wantSorted(t, pairs(c, set(b, a), array(set(b, a))), pairs(c, set(a, b), array(set(a, b))))
	wantSorted(t, of(99, set(b, a)), of(99))
}

func TestSortedByPartsThenByHowMany(t *testing.T) {
	wantSorted(t, set(array(b), array(a, a, a), array(a), array(), array(a, b), array(a, a)), set(array(), array(a), array(a, a), array(a, a, a), array(a, b), array(b)))
	wantSorted(t, set(set(b), set(a, a, a), set(c, a)), set(set(a, a, a), set(a, c), set(b)))
	wantSorted(t, set(pairs(b, one), pairs(b), pairs(a, two, a, one)), set(pairs(a, one, a, two), pairs(b), pairs(b, one)))
	wantSorted(t, set(reply.Bulk("b"), reply.Bulk("ab"), reply.Bulk("a"), reply.Bulk("")), set(reply.Bulk(""), reply.Bulk("a"), reply.Bulk("ab"), reply.Bulk("b")))
	wantSorted(t, set(reply.Int(10), reply.Int(9), reply.Int(-10), reply.Int(-9)), set(reply.Int(-10), reply.Int(-9), reply.Int(9), reply.Int(10)))
}

func TestSortedOfMany(t *testing.T) {
	var up, field []api.Reply
	for n := range 5000 {
		up = append(up, reply.Int(int64(n/3)))
		field = append(field, reply.Int(int64(n/3)), reply.Bulk(string(rune('a'+n%3))))
	}
	down, mixed := slices.Clone(up), make([]api.Reply, len(up))
	slices.Reverse(down)
	for i := range up {
		mixed[i*37%len(up)] = up[i]
	}
	for _, l := range [][]api.Reply{up, down, mixed} {
		wantSorted(t, set(l...), set(up...))
		wantAlike(t, set(l...), set(up...), true)
	}
	turned := make([]api.Reply, 0, len(field))
	for i := len(field) - 2; i >= 0; i -= 2 {
		turned = append(turned, field[i], field[i+1])
	}
	wantSorted(t, pairs(turned...), pairs(field...))
	wantAlike(t, pairs(turned...), pairs(field...), true)
}
