package reply_test

import (
	"slices"
	"testing"

	"tallboy/api"
	"tallboy/reply"
)

func TestAlikeOfItself(t *testing.T) {
	for _, x := range append(nests(), singles()...) {
		wantAlike(t, x, clone(x), true)
		for _, kind := range withParts {
			wantAlike(t, of(kind, x, a, x), of(kind, clone(x), a, clone(x)), true)
		}
	}
}

func TestAlikeOfNests(t *testing.T) {
	l := append(nests(), singles()...)
	for _, x := range l {
		for _, y := range l {
			wantAlike(t, x, y, readAlike(x, y))
		}
	}
}

func TestAlikeSetsInEachOrder(t *testing.T) {
	for _, parts := range [][]api.Reply{
		{a}, {a, b}, {a, b, c}, {a, b, one, null, nullArray}, {a, a, b, b, c}, {set(), pairs(), array()},
		{set(a, b), set(b, c), set(a)}, {pairs(a, one), pairs(b, one), pairs(a, two), a}, {array(a, b), array(b, a), array(a)},
		{simple("x"), failure("x"), reply.Bulk("x")}, {of(99), of(98), of(-1)},
	} {
		want := set(parts...)
		for _, turn := range turns(parts) {
			wantAlike(t, set(turn...), want, true)
			wantAlike(t, set(slices.Concat(turn, parts[:1])...), want, false)
			wantAlike(t, set(turn[1:]...), want, false)
			wantAlike(t, array(turn...), array(parts...), show(array(turn...)) == show(array(parts...)))
		}
	}
}

func TestAlikeSetsAreOneToOne(t *testing.T) {
	// Each list has parts of two sorts and as many of each one as the numbers say.
	for _, x := range [][2]api.Reply{{a, b}, {one, two}, {null, nullArray}, {set(a, b), set(a, c)}, {pairs(a, one), pairs(a, two)}, {array(), set()}} {
		for n := range 5 {
			for m := range 5 {
				left, right := set(), set()
				for i := range 5 {
					left.L = append(left.L, x[min(1, max(0, i-n+1))])
					right.L = append(right.L, x[min(1, max(0, i-m+1))])
				}
				slices.Reverse(right.L)
				wantAlike(t, left, right, n == m)
			}
		}
	}
	wantAlike(t, set(a, a, b), set(a, b, b), false)
	wantAlike(t, set(a, a), set(a, b), false)
	wantAlike(t, set(a, b), set(a, a), false)
	wantAlike(t, set(a, a, b), set(b, a), false)
	wantAlike(t, set(a, b, a), set(b, a, a), true)
}

func TestAlikeSetsInSets(t *testing.T) {
	x := set(set(set(a, b), c), pairs(set(a, b), set(one, two)), a)
	wantAlike(t, x, set(a, pairs(set(b, a), set(two, one)), set(c, set(b, a))), true)
	wantAlike(t, x, set(a, pairs(set(two, one), set(b, a)), set(c, set(b, a))), false)
	wantAlike(t, x, set(a, pairs(set(b, a), set(two, one)), set(b, set(c, a))), false)
	wantAlike(t, set(array(a, b)), set(array(b, a)), false)
	wantAlike(t, array(set(a, b), set(b, c)), array(set(b, a), set(c, b)), true)
	wantAlike(t, array(set(a, b), set(b, c)), array(set(c, b), set(b, a)), false)
	wantAlike(t, set(set(a), set(b)), set(set(a, b), set()), false)
	wantAlike(t, set(set(a, b)), set(a, b), false)
	wantAlike(t, set(set(a), set()), set(set(set()), set(a)), false)
}

func TestAlikeOtherKinds(t *testing.T) {
	for _, x := range withParts {
		for _, y := range withParts {
			wantAlike(t, of(x, a, b), of(y, a, b), x == y)
			wantAlike(t, of(x), of(y), x == y)
			wantAlike(t, set(of(x, a, b), c), set(c, of(y, a, b)), x == y)
		}
	}
	wantAlike(t, array(), nullArray, false)
	wantAlike(t, null, nullArray, false)
	wantAlike(t, reply.Bulk(""), null, false)
	wantAlike(t, reply.Bulk("1"), reply.Int(1), false)
}

func TestAlikeMapsInEachOrder(t *testing.T) {
	for _, list := range [][][]api.Reply{
		{{a, one}}, {{a, one}, {b, two}}, {{a, one}, {b, two}, {c, many}, {one, a}},
		{{a, one}, {a, two}, {b, one}}, {{a, one}, {a, one}, {a, two}}, {{a, one}, {a, one}, {a, one}},
		{{set(a, b), one}, {set(b, c), one}, {pairs(a, one), pairs()}}, {{a, set(a, b)}, {b, set(a, b)}, {a, null}},
	} {
		want := pairs(flat(list)...)
		for _, turn := range pairTurns(list) {
			wantAlike(t, pairs(turn...), want, true)
			wantAlike(t, array(turn...), array(want.L...), show(array(turn...)) == show(array(want.L...)))
			for _, last := range []api.Reply{a, one, set(a, b), pairs(a, one)} {
				wantAlike(t, pairs(slices.Concat(turn, []api.Reply{last})...), pairs(slices.Concat(want.L, []api.Reply{last})...), true)
				wantAlike(t, pairs(slices.Concat(turn, []api.Reply{last})...), want, false)
				wantAlike(t, pairs(slices.Concat(turn, []api.Reply{last})...), pairs(slices.Concat(want.L, []api.Reply{null})...), false)
			}
			wantAlike(t, pairs(turn[1:]...), want, false)
		}
	}
}

func TestAlikeMapsKeepPairsTogether(t *testing.T) {
	x := pairs(a, one, b, two)
	for _, turn := range turns(x.L) {
		y := pairs(turn...)
		wantAlike(t, x, y, show(y) == show(x) || show(y) == show(pairs(b, two, a, one)))
	}
	wantAlike(t, pairs(a, b, b, a), pairs(b, a, a, b), true)
	wantAlike(t, pairs(a, b), pairs(b, a), false)
	wantAlike(t, pairs(a, a, b, b), pairs(a, b, b, a), false)
	wantAlike(t, pairs(a, one, a, two), pairs(a, two, a, one), true)
	wantAlike(t, pairs(a, one, a, one, a, two), pairs(a, one, a, two, a, two), false)
	wantAlike(t, pairs(a, one, b, one), pairs(b, one, b, one), false)
	wantAlike(t, pairs(set(a, b), set(b, c)), pairs(set(b, a), set(c, b)), true)
}

func TestAlikeMapsWithALastPart(t *testing.T) {
	wantAlike(t, pairs(a), pairs(a), true)
	wantAlike(t, pairs(a), pairs(b), false)
	wantAlike(t, pairs(a), pairs(), false)
	wantAlike(t, pairs(set(a, b)), pairs(set(b, a)), true)
	wantAlike(t, pairs(array(a, b)), pairs(array(b, a)), false)
	wantAlike(t, pairs(b, two, a, one, c), pairs(a, one, b, two, c), true)
	wantAlike(t, pairs(b, two, a, one, c), pairs(a, one, b, two, a), false)
	wantAlike(t, pairs(b, two, a, one, c), pairs(a, one, b, two), false)
	wantAlike(t, pairs(b, two, a, one, c), pairs(a, one, b, two, c, one), false)
	// The last one is of no pair: it can not change places with a field.
	wantAlike(t, pairs(a, one, b), pairs(b, one, a), false)
	wantAlike(t, pairs(a, one, b), pairs(b, a, one), false)
	wantAlike(t, pairs(a, b, a), pairs(a, a, b), false)
	wantAlike(t, pairs(b, one, a, one, a), pairs(a, one, a, one, b), false)
}
