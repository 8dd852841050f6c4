package resp_test

import (
	"testing"

	"tallboy/api"
	"tallboy/reply"
	"tallboy/resp"
)

// wantFlat asks twice, for the Flat one of that too, and for what Decode tells of Encode in version 2.
func wantFlat(t *testing.T, r, want api.Reply) {
	t.Helper()
	for range 2 {
		if got := resp.Flat(r); show(got) != show(want) {
			t.Errorf("P18.2: Flat(%s): %s, want %s", brief(r), brief(got), brief(want))
			return
		}
	}
	if got, _, _ := resp.Decode(resp.Encode(r, 2)); show(got) != show(want) {
		t.Errorf("P18.2: Decode of Encode(%s, 2): %s, want %s", brief(r), brief(got), brief(want))
	}
}

func TestFlatOfEachKind(t *testing.T) {
	for _, x := range []struct{ r, want api.Reply }{
		{reply.OK(), reply.OK()},
		{simple("a\r\nb"), simple("a  b")},
		{failure("\rE\n"), failure(" E ")},
		{reply.Int(-5), reply.Int(-5)},
		{reply.Bulk("a\r\nb"), reply.Bulk("a\r\nb")},
		{null, null},
		{nullArray, nullArray},
		{array(), array()},
		{array(a, one), array(a, one)},
		{pairs(), array()},
		{pairs(a, one), array(a, one)},
		{pairs(a, one, b), array(a, one, b)},
		{set(), array()},
		{set(b, a), array(b, a)},
		{array(set(pairs(a, set())), nullArray), array(array(array(a, array())), nullArray)},
		{pairs(pairs(a), set(b, simple("\n"))), array(array(a), array(b, simple(" ")))},
		{of(0), null}, {of(99, a), null}, {of(-1), null},
		{set(of(10, a), a), array(null, a)},
	} {
		wantFlat(t, x.r, x.want)
		wantFlat(t, filled(x.r), x.want)
		wantFlat(t, x.want, x.want)
	}
}

func TestFlatOfAll(t *testing.T) {
	for _, x := range all() {
		for _, r := range []api.Reply{x, filled(x), array(x, a), set(one, x), pairs(a, x, b)} {
			wantFlat(t, r, told(r, false))
		}
	}
}

// What Decode refuses, as it is too deep, is told as nothing.
func TestFlatOfDeepOnes(t *testing.T) {
	for _, kind := range withParts {
		for n := range 50 {
			r := nested(kind, n, set(a))
			want := told(r, false)
			if n+2 > 33 {
				want = api.Reply{}
			}
			wantFlat(t, r, want)
			wantFlat(t, nested(99, n, a), map[bool]api.Reply{true: a, false: null}[n == 0])
		}
	}
	wantFlat(t, nested(api.SetReply, 1<<16-1, a), api.Reply{})
}
