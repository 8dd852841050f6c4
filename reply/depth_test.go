package reply_test

import (
	"testing"

	"tallboy/api"
	"tallboy/reply"
)

func TestDepthOfSingles(t *testing.T) {
	for _, x := range append(singles(), reply.OK(), reply.Fail("get", api.ErrInt), reply.Fail("", nil), reply.Bulks()) {
		wantDepth(t, x, 1)
		for _, y := range fillings(x) {
			wantDepth(t, y, 1)
		}
	}
}

func TestDepthOfParts(t *testing.T) {
	for _, kind := range withParts {
		wantDepth(t, of(kind), 1)
		for _, x := range singles() {
			wantDepth(t, of(kind, x), 2)
			wantDepth(t, of(kind, x, a, x), 2)
		}
		for _, inner := range allKinds() {
			want := 2
			switch inner {
			case api.Array, api.MapReply, api.SetReply:
				want = 3
			}
			wantDepth(t, of(kind, of(inner, a)), want)
		}
	}
	wantDepth(t, reply.Bulks("a", "b"), 2)
	wantDepth(t, array(array(a), a), 3)
	wantDepth(t, set(a, pairs(array())), 3)
}

func TestDepthOfTheDeepestWhereverItStands(t *testing.T) {
	for _, kind := range withParts {
		for n := 1; n < 7; n++ {
			for place := range n {
				for deep := range 6 {
					r := of(kind)
					for range n {
						r.L = append(r.L, nested(api.Array, 2, a))
					}
					r.L[place] = nested(api.SetReply, deep, a)
					want := 2 + deep
					if n > 1 {
						want = max(4, want)
					}
					wantDepth(t, r, want)
				}
			}
		}
	}
}

func TestDepthReadsNoSpareRoom(t *testing.T) {
	r := array(a, array(array(a)))
	r.L = r.L[:1]
	wantDepth(t, r, 2)
	r.L = r.L[:0]
	wantDepth(t, r, 1)
}

func TestVeryDeep(t *testing.T) {
	const deep = 1<<16 - 2
	for _, kind := range withParts {
		x, y, z := nested(kind, deep, set(a, b)), nested(kind, deep, set(b, a)), nested(kind, deep, set(a, c))
		if got := reply.Depth(x); got != deep+2 {
			t.Errorf("P17.2: Depth of one that is %d deep: %d", deep+2, got)
		}
		if !reply.Same(x, x) || reply.Same(x, y) || reply.Same(x, z) {
			t.Error("P17.1: Same of very deep ones")
		}
		if !reply.Alike(x, y) || reply.Alike(x, z) || reply.Alike(y, z) {
			t.Error("P17.2: Alike of very deep ones")
		}
		if !reply.Same(reply.Sorted(y), x) {
			t.Error("P17.2: Sorted of a very deep one")
		}
		if got := reply.Sorted(set(z, x, y)); !reply.Same(got, set(x, x, z)) {
			t.Error("P17.2: Sorted of a set of very deep ones")
		}
	}
}

func TestManyLevelsOfSets(t *testing.T) {
	// Each level has the one below it twice, in another order: trying each part against each other one would not come to an end.
	build := func(turned bool) api.Reply {
		r := set(a, b)
		for level := range 14 {
			other := clone(r)
			if turned {
				r = set(reply.Int(int64(level)), other, r)
			} else {
				r = set(r, other, reply.Int(int64(level)))
			}
		}
		return r
	}
	x, y := build(false), build(true)
	if !reply.Alike(x, y) || reply.Same(x, y) || !reply.Same(reply.Sorted(x), reply.Sorted(y)) {
		t.Error("P17.2: Alike of sets in many levels")
	}
	if got := reply.Depth(x); got != 16 {
		t.Errorf("P17.2: Depth of sets in many levels: %d", got)
	}
}
