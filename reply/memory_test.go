package reply_test

import (
	"slices"
	"testing"

	"tallboy/api"
	"tallboy/reply"
)

// spoil writes over a list and its spare room, and over those of all parts.
func spoil(l []api.Reply) {
	l = l[:cap(l)]
	for i := range l {
		spoil(l[i].L)
		l[i] = failure("spoilt")
	}
}

// roomy is r with spare room in each list, full of what is none of its parts.
func roomy(r api.Reply) api.Reply {
	l := make([]api.Reply, 0, len(r.L)+3)
	for _, p := range r.L {
		l = append(l, roomy(p))
	}
	n := len(l)
	r.L = append(l, of(-7), a, array(a))[:n]
	return r
}

// whole tells a reply and its spare room, those of all parts too.
func whole(r api.Reply) string {
	r = clone(opened(r))
	return show(r)
}

// opened is r with its spare room as parts.
func opened(r api.Reply) api.Reply {
	l := r.L[:cap(r.L)]
	r.L = nil
	for _, p := range l {
		r.L = append(r.L, opened(p))
	}
	return r
}

func TestCallsChangeNothingHandedIn(t *testing.T) {
	for _, x := range append(nests(), singles()...) {
		y, z := roomy(filled(x, "x", 5, []api.Reply{b, a})), roomy(set(b, x, a))
		first, second := whole(y), whole(z)
		reply.Same(y, z)
		reply.Alike(y, z)
		reply.Sorted(y)
		reply.Sorted(z)
		reply.Depth(y)
		reply.Depth(z)
		reply.Failed(y)
		if whole(y) != first || whole(z) != second {
			t.Fatalf("R2: %s or %s were changed", first, second)
		}
	}
}

func TestSortedHasMemoryOfItsOwn(t *testing.T) {
	for _, x := range append(nests(), singles()...) {
		for _, y := range []api.Reply{x, filled(x, "x", 5, []api.Reply{b, a}), set(b, x, a), array(x, x), pairs(b, x, a, x, x)} {
			y = roomy(y)
			was := whole(y)
			got := reply.Sorted(y)
			want := show(got)
			spoil(got.L)
			if whole(y) != was {
				t.Fatalf("R2: what was done to Sorted's answer is seen in %s", was)
			}
			got = reply.Sorted(y)
			spoil(y.L)
			if show(got) != want {
				t.Fatalf("R2: what was done to %s is seen in Sorted's answer", was)
			}
		}
	}
}

func TestListsOfOneAnswerShareNothing(t *testing.T) {
	shared := []api.Reply{set(b, a), c}
	for _, kind := range withParts {
		for _, inner := range withParts {
			one := of(inner, shared...)
			got := reply.Sorted(of(kind, one, one, one))
			want := show(reply.Sorted(of(kind, clone(one), clone(one), clone(one))).L[1])
			spoil(got.L[0].L)
			spoil(got.L[2].L)
			if show(got.L[1]) != want {
				t.Errorf("R2: lists of one answer share memory: %s, want %s", brief(got.L[1]), want)
			}
		}
	}
	parts := reply.Sorted(array(set(a, b), set(a), set())).L
	for i, p := range parts {
		rest := slices.Concat(parts[:i], parts[i+1:])
		was := show(array(rest...))
		spoil(p.L)
		if show(array(rest...)) != was {
			t.Errorf("R2: the spare room of list %d is another list's", i)
		}
	}
}
