package reply_test

import (
	"fmt"
	"math"
	"slices"
	"strings"
	"testing"

	"tallboy/api"
	"tallboy/reply"
)

var (
	kinds = []int{api.Simple, api.Error, api.Int, api.Bulk, api.Null, api.NullArray, api.Array, api.MapReply, api.SetReply}
	// noKinds are numbers beside the Kinds, and such as are one of them in fewer bits.
	noKinds = []int{math.MinInt, -1 << 32, -1<<32 + 7, -256 + 3, -9, -4, -1, 0, 10, 11, 99, 256 + 9, 1<<16 + 4, 1<<32 + 2, 1<<32 + 8, math.MaxInt}

	withText  = []int{api.Simple, api.Error, api.Bulk}
	withParts = []int{api.Array, api.MapReply, api.SetReply}

	numbers = []int64{math.MinInt64, math.MinInt64 + 1, -1 << 32, -257, -2, -1, 0, 1, 2, 255, 256, 1 << 31, 1 << 32, math.MaxInt64 - 1, math.MaxInt64}
	// texts come in rising order, several of which open as others.
	texts = []string{"", "\x00", "\x00\x00", "\x01", "-1", "0", "1", "10", "2", "A", "OK", "a", "a\x00", "aa", "ab", "b", "ba", "\x7f", "\x80", "\xc3\xa4", "\xff", "\xff\x00", "\xff\xff"}
)

var (
	a, b, c        = reply.Bulk("a"), reply.Bulk("b"), reply.Bulk("c")
	one, two, many = reply.Int(1), reply.Int(2), reply.Int(3)
	null           = api.Reply{Kind: api.Null}
	nullArray      = api.Reply{Kind: api.NullArray}
)

// of has a Kind and parts.
func of(kind int, parts ...api.Reply) api.Reply {
	return api.Reply{Kind: kind, L: parts}
}

func array(parts ...api.Reply) api.Reply { return of(api.Array, parts...) }
func pairs(parts ...api.Reply) api.Reply { return of(api.MapReply, parts...) }
func set(parts ...api.Reply) api.Reply   { return of(api.SetReply, parts...) }

func simple(s string) api.Reply  { return api.Reply{Kind: api.Simple, S: s} }
func failure(s string) api.Reply { return api.Reply{Kind: api.Error, S: s} }

// allKinds are those of the document, and others.
func allKinds() []int {
	return slices.Concat(kinds, noKinds)
}

// singles are replies without parts: of each Kind, with each text or number that it may have.
func singles() []api.Reply {
	l := []api.Reply{null, nullArray, array(), pairs(), set()}
	for _, n := range numbers {
		l = append(l, reply.Int(n))
	}
	for _, kind := range withText {
		for _, s := range texts {
			l = append(l, api.Reply{Kind: kind, S: s})
		}
	}
	for _, kind := range noKinds {
		l = append(l, of(kind))
	}
	return l
}

// nests are replies with parts, in one another too.
func nests() []api.Reply {
	var l []api.Reply
	for _, kind := range withParts {
		l = append(l,
			of(kind, a), of(kind, b), of(kind, a, a), of(kind, a, b), of(kind, b, a), of(kind, a, b, c), of(kind, c, b, a), of(kind, a, a, b),
			of(kind, a, one, b, two), of(kind, b, two, a, one), of(kind, a, two, b, one), of(kind, null, nullArray), of(kind, of(99)))
		for _, inner := range withParts {
			l = append(l, of(kind, of(inner)), of(kind, of(inner, a)), of(kind, of(inner, b, a), one), of(kind, one, of(inner, a, b)), of(kind, of(inner, of(inner, a))))
		}
	}
	return l
}

// filled is r with what its Kind does not have, in each part too: it means the same.
func filled(r api.Reply, s string, n int64, l []api.Reply) api.Reply {
	if !slices.Contains(withText, r.Kind) {
		r.S = s
	}
	if r.Kind != api.Int {
		r.N = n
	}
	if !slices.Contains(withParts, r.Kind) {
		r.L = l
		return r
	}
	parts := r.L
	r.L = nil
	for _, p := range parts {
		r.L = append(r.L, filled(p, s, n, l))
	}
	return r
}

// fillings are several replies with unlike fields that do not count.
func fillings(r api.Reply) []api.Reply {
	return []api.Reply{
		filled(r, "x", 0, nil),
		filled(r, "", math.MinInt64, nil),
		filled(r, "", 0, []api.Reply{b, a}),
		filled(r, "\xff", math.MaxInt64, []api.Reply{set(b, a), array(array(a))}),
	}
}

// show tells all of a reply, what does not count too; nil and empty lists are the same.
func show(r api.Reply) string {
	var parts []string
	for _, p := range r.L {
		parts = append(parts, show(p))
	}
	return fmt.Sprintf("{%d %q %d [%s]}", r.Kind, r.S, r.N, strings.Join(parts, " "))
}

// brief is show for messages: of great ones the beginning alone.
func brief(r api.Reply) string {
	s := show(r)
	if len(s) > 300 {
		return s[:300] + ".."
	}
	return s
}

// clone has memory of its own.
func clone(r api.Reply) api.Reply {
	parts := r.L
	r.L = nil
	for _, p := range parts {
		r.L = append(r.L, clone(p))
	}
	return r
}

// turns are all orders of the parts.
func turns(parts []api.Reply) [][]api.Reply {
	if len(parts) == 0 {
		return [][]api.Reply{nil}
	}
	var all [][]api.Reply
	for i := range parts {
		for _, rest := range turns(slices.Concat(parts[:i], parts[i+1:])) {
			all = append(all, slices.Concat(parts[i:i+1], rest))
		}
	}
	return all
}

// flat has the parts of all lists, one behind the other.
func flat(lists [][]api.Reply) []api.Reply {
	return slices.Concat(lists...)
}

// pairTurns are all orders of the pairs.
func pairTurns(list [][]api.Reply) [][]api.Reply {
	if len(list) == 0 {
		return [][]api.Reply{nil}
	}
	var all [][]api.Reply
	for i := range list {
		for _, rest := range pairTurns(slices.Concat(list[:i], list[i+1:])) {
			all = append(all, slices.Concat(list[i], rest))
		}
	}
	return all
}

// nested is an innermost reply inside so many of a Kind.
func nested(kind, deep int, inner api.Reply) api.Reply {
	for range deep {
		inner = of(kind, inner)
	}
	return inner
}

// wantReply holds a reply to all of its fields.
func wantReply(t *testing.T, what string, got, want api.Reply) {
	t.Helper()
	if show(got) != show(want) {
		t.Errorf("%s: %s, want %s", what, brief(got), brief(want))
	}
}

// wantSame asks both ways round, and again: the answers hang on what is given alone.
func wantSame(t *testing.T, x, y api.Reply, want bool) {
	t.Helper()
	for range 2 {
		if reply.Same(x, y) != want || reply.Same(y, x) != want {
			t.Errorf("P17.1: Same(%s, %s) or the other way round is not %v", brief(x), brief(y), want)
			return
		}
	}
}

// wantAlike asks both ways round, and again. Those that are Alike are the Same when Sorted, and no others.
func wantAlike(t *testing.T, x, y api.Reply, want bool) {
	t.Helper()
	for range 2 {
		if reply.Alike(x, y) != want || reply.Alike(y, x) != want {
			t.Errorf("P17.2: Alike(%s, %s) or the other way round is not %v", brief(x), brief(y), want)
			return
		}
	}
	if reply.Same(reply.Sorted(x), reply.Sorted(y)) != want {
		t.Errorf("P17.2: Sorted of %s and of %s: Same is not %v", brief(x), brief(y), want)
	}
	if reply.Same(x, y) && !want {
		t.Errorf("P17.2: %s and %s are Same, but not Alike", brief(x), brief(y))
	}
}

// wantSorted asks twice, and for Sorted of the Sorted one.
func wantSorted(t *testing.T, r, want api.Reply) {
	t.Helper()
	was := show(r)
	got := reply.Sorted(r)
	wantReply(t, "P17.2: Sorted of "+brief(r), got, want)
	wantReply(t, "R4: Sorted again of "+brief(r), reply.Sorted(r), want)
	wantReply(t, "P17.2: Sorted of the Sorted one of "+brief(r), reply.Sorted(got), want)
	if show(r) != was {
		t.Errorf("R2: Sorted changed %s to %s", was, brief(r))
	}
	if !reply.Alike(r, got) || !reply.Alike(got, r) {
		t.Errorf("P17.2: %s is not Alike when Sorted", brief(r))
	}
}

// wantDepth asks twice.
func wantDepth(t *testing.T, r api.Reply, want int) {
	t.Helper()
	for range 2 {
		if got := reply.Depth(r); got != want {
			t.Errorf("P17.2: Depth(%s): %d, want %d", brief(r), got, want)
		}
	}
}
