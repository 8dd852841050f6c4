package reply_test

import (
	"testing"

	"tallboy/api"
	"tallboy/reply"
)

func TestChapter(t *testing.T) {
	wantAlike(t, set(a, b), set(b, a), true)
	wantSame(t, null, nullArray, false)
	wantDepth(t, reply.OK(), 1)
}

func TestSameOfSingles(t *testing.T) {
	l := singles()
	for i, x := range l {
		for k, y := range l {
			wantSame(t, x, y, i == k)
			wantAlike(t, x, y, i == k)
		}
	}
}

func TestSameOfNests(t *testing.T) {
	l := append(nests(), singles()...)
	for _, x := range l {
		for _, y := range l {
			wantSame(t, x, clone(y), show(x) == show(y))
		}
	}
}

func TestSameLeavesOutWhatAKindHasNot(t *testing.T) {
	for _, x := range append(nests(), singles()...) {
		l := append(fillings(x), x)
		for _, y := range l {
			for _, z := range l {
				wantSame(t, y, z, true)
				wantAlike(t, y, z, true)
			}
		}
	}
	// What the one has where it counts, the other has where it does not.
	for i, x := range []api.Reply{
		{Kind: api.Bulk, S: "a", N: 5, L: []api.Reply{b}}, {Kind: api.Bulk, S: "c", N: 5, L: []api.Reply{b}},
		{Kind: api.Int, S: "a", N: 5, L: []api.Reply{b}}, {Kind: api.Int, S: "a", N: 6, L: []api.Reply{b}},
		{Kind: api.Array, S: "a", N: 5, L: []api.Reply{b}}, {Kind: api.Array, S: "a", N: 5, L: []api.Reply{c}},
		{Kind: api.MapReply, S: "a", N: 5, L: []api.Reply{b}}, {Kind: api.MapReply, S: "a", N: 5, L: nil},
		{Kind: api.SetReply, S: "a", N: 5, L: []api.Reply{b}}, {Kind: api.SetReply, S: "a", N: 5, L: []api.Reply{b, b}},
		{Kind: api.Null, S: "a", N: 5, L: []api.Reply{b}}, {Kind: api.NullArray, S: "a", N: 5, L: []api.Reply{b}},
		{Kind: api.Simple, S: "a", N: 5, L: []api.Reply{b}}, {Kind: api.Simple, S: "", N: 5, L: []api.Reply{b}},
		{Kind: api.Error, S: "a", N: 5, L: []api.Reply{b}}, {Kind: api.Error, S: "a ", N: 5, L: []api.Reply{b}},
	} {
		for k, y := range []api.Reply{
			reply.Bulk("a"), reply.Bulk("c"), reply.Int(5), reply.Int(6), array(b), array(c), pairs(b), pairs(), set(b), set(b, b),
			null, nullArray, simple("a"), simple(""), failure("a"), failure("a "),
		} {
			wantSame(t, x, y, i == k)
			wantAlike(t, x, y, i == k)
		}
	}
}

func TestSameCountsParts(t *testing.T) {
	for _, kind := range withParts {
		for n := range 6 {
			for m := range 6 {
				x, y := of(kind), of(kind)
				for range n {
					x.L = append(x.L, a)
				}
				for range m {
					y.L = append(y.L, a)
				}
				wantSame(t, x, y, n == m)
				wantAlike(t, x, y, n == m)
				wantSame(t, array(x, one), array(y, one), n == m)
			}
		}
		wantSame(t, of(kind), api.Reply{Kind: kind, L: []api.Reply{}}, true)
		wantAlike(t, of(kind), api.Reply{Kind: kind, L: []api.Reply{}}, true)
	}
}

func TestSameReadsNoSpareRoom(t *testing.T) {
	for _, kind := range withParts {
		x, y := of(kind, a, b, c), of(kind, a, b, one)
		x.L, y.L = x.L[:2], y.L[:2]
		wantSame(t, x, y, true)
		wantAlike(t, x, y, true)
		wantSame(t, x, of(kind, a, b, c), false)
		wantAlike(t, x, of(kind, a, b, c), false)
	}
}

func TestSameGoesInOrder(t *testing.T) {
	for _, kind := range withParts {
		parts := []api.Reply{a, b, one, null, array(a)}
		want := of(kind, parts...)
		for _, turn := range turns(parts) {
			r := of(kind, turn...)
			wantSame(t, r, want, show(r) == show(want))
		}
	}
}

func TestSameLooksAtEachPart(t *testing.T) {
	for _, kind := range withParts {
		for n := 1; n < 8; n++ {
			for i := range n {
				x, y := of(kind), of(kind)
				for range n {
					x.L, y.L = append(x.L, array(a, set(one))), append(y.L, array(a, set(one)))
				}
				wantSame(t, x, y, true)
				y.L[i].L[1].L[0].N = 2
				wantSame(t, x, y, false)
				wantAlike(t, x, y, false)
			}
		}
	}
}

func TestSameSeveralDeep(t *testing.T) {
	for _, kind := range withParts {
		for deep := range 40 {
			wantSame(t, nested(kind, deep, a), nested(kind, deep, a), true)
			wantSame(t, nested(kind, deep, a), nested(kind, deep, b), false)
			wantSame(t, nested(kind, deep, of(kind)), nested(kind, deep+1, of(kind)), false)
			wantAlike(t, nested(kind, deep, set(a, b)), nested(kind, deep, set(b, a)), true)
			wantAlike(t, nested(kind, deep, array(a, b)), nested(kind, deep, array(b, a)), false)
			wantAlike(t, nested(kind, deep, of(kind)), nested(kind, deep+1, of(kind)), false)
		}
	}
}
