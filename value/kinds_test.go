package value_test

import (
	"errors"
	"fmt"
	"slices"
	"strings"
	"testing"

	"tallboy/api"
	"tallboy/fault"
	"tallboy/hmap"
	"tallboy/quick"
	"tallboy/sset"
	"tallboy/value"
)

// someTexts are texts of any bytes.
func someTexts() []string {
	return []string{"", "a", "0", "12", "\x00", "\xff\xfe", "a\r\n", "\u00e9", strings.Repeat("y", 44), strings.Repeat("y", 45), longest, strings.Repeat("z", api.MaxText), strings.Repeat("z", api.MaxText+1)}
}

// P15.1: OfText is a String of that text, and has nothing else.
func TestOfText(t *testing.T) {
	for _, s := range someTexts() {
		wantValue(t, value.OfText(s), &model{kind: api.String, text: s})
	}
}

// P15.1: each OfText is another value.
func TestOfTextByItself(t *testing.T) {
	a, b := value.OfText("a"), value.OfText("a")
	b.Text = "b"
	if a.Text != "a" || value.OfText("a").Text != "a" {
		t.Errorf("P15.1: OfText: %q", a.Text)
	}
}

// P15.1: New is an empty one of each Kind, whatever the seed and the limits.
func TestNew(t *testing.T) {
	for _, kind := range kinds {
		for _, l := range someLimits() {
			for _, seed := range seeds {
				v, w := both(kind, seed, l)
				wantValue(t, v, w)
				if want := []string{"", "embstr", "listpack", "listpack", "listpack"}[kind]; v.Encoding() != want {
					t.Fatalf("P15.2: Encoding of a new %s: %q", v.Type(), v.Encoding())
				}
			}
		}
	}
}

// P15.1, Example 1: New is nil of a Kind that is none.
func TestNewOfNoKind(t *testing.T) {
	for _, kind := range noKinds {
		for _, l := range someLimits() {
			if v := value.New(kind, 1, l); v != nil {
				t.Fatalf("P15.1: New(%d): %+v", kind, v)
			}
		}
	}
}

// P15.1: each New is another value.
func TestNewByItself(t *testing.T) {
	for _, kind := range kinds {
		v, w := both(kind, 1, limits(2, 9))
		other, o := both(kind, 1, limits(2, 9))
		for _, s := range names(5) {
			add(v, w, s, s)
		}
		wantValue(t, other, o)
		wantValue(t, v, w)
	}
}

// hashTells is a hash with every order.
func hashTells(m *hmap.Map) string {
	l, next := m.Scan(1, 3)
	return fmt.Sprintf("%t %q %q %d", m.Packed(), m.All(), l, next)
}

// setTells is a set with every order.
func setTells(s *sset.Set) string {
	l, next := s.Scan(1, 3)
	return fmt.Sprintf("%t %q %q %d", s.Packed(), s.All(), l, next)
}

// P15.1: the hash, the set and the list of New are those of the seed and the limits that it was given: they tell, in every order, what such ones tell.
func TestNewOfSeedAndLimits(t *testing.T) {
	for _, l := range []api.Limits{{}, limits(-1, -1), limits(1, 3), limits(3, 1), limits(5, 9), limits(100, 60), limits(513, 61)} {
		for _, seed := range seeds {
			h, s, q := hmap.New(seed, l), sset.New(seed, l), quick.New(l.Entries)
			vh, vs, vq := value.New(api.Hash, seed, l), value.New(api.Set, seed, l), value.New(api.List, seed, l)
			for _, name := range names(200) {
				h.Set(name, name)
				vh.Hash.Set(name, name)
				s.Add(name)
				vs.Set.Add(name)
				q.Right(name)
				vq.List.Right(name)
				if vh.Hash.Packed() != h.Packed() || vs.Set.Packed() != s.Packed() || !slices.Equal(vq.List.Nodes(), q.Nodes()) {
					t.Fatalf("P15.1: New with limits %+v, %d things: %t, %t, %v", l, q.Len(), vh.Hash.Packed(), vs.Set.Packed(), vq.List.Nodes())
				}
			}
			if hashTells(vh.Hash) != hashTells(h) || setTells(vs.Set) != setTells(s) || !slices.Equal(vq.List.All(), q.All()) {
				t.Fatalf("P15.1: New with seed %d, limits %+v", seed, l)
			}
		}
	}
}

// P15.1: no pack of a list has more than Entries texts, and Text makes no difference to it.
func TestNewList(t *testing.T) {
	for _, entries := range []int{-7, -1, 0, 1, 2, 3, 10, 600} {
		for _, text := range []int{-1, 0, 1, 60} {
			v := made(api.List, 1, limits(entries, text), names(700)...)
			for _, n := range v.List.Nodes() {
				if n > max(entries, 1) {
					t.Fatalf("P15.1: a pack of %d texts, Entries %d", n, entries)
				}
			}
			if entries == 600 && len(v.List.Nodes()) != 2 {
				t.Errorf("P15.1: 700 texts, at most 600 a pack, in %d packs", len(v.List.Nodes()))
			}
		}
	}
}

// P15.1: Is of each Kind, and of each number that is none, of each Kind; empty, packed and not.
func TestIs(t *testing.T) {
	for _, kind := range kinds {
		for _, l := range ways {
			for _, n := range []int{0, 1, 5} {
				v, w := filled(kind, 1, l, names(n)...)
				for _, other := range slices.Concat(kinds, noKinds) {
					wantIs(t, v, other, other == kind)
				}
				wantValue(t, v, w)
			}
		}
	}
}

// P15.1, Ways: what Is answers is a fault that errors.Is and errors.As go through, and that wraps as others do.
func TestIsWraps(t *testing.T) {
	err := value.OfText("a").Is(api.Hash)
	var f *fault.Fault
	var c api.Code
	if !errors.As(err, &f) || f.Cmd != "" || f.Err != error(api.ErrType) || !errors.As(err, &c) || c != api.ErrType || errors.Is(err, api.ErrForm) || err.Error() == "" {
		t.Fatalf("P15.1: Is: %v", err)
	}
	outer := fault.Wrap("hget", err)
	if fault.Code(outer) != api.ErrType || fault.Cmd(outer) != "hget" || fault.Depth(outer) != 2 || !errors.Is(outer, err) || !errors.Is(outer, api.ErrType) {
		t.Errorf("P15.1: wrapped: %v", outer)
	}
}

// R2: an error that was told may be turned, and no later one is.
func TestIsByItself(t *testing.T) {
	v := value.OfText("a")
	var f *fault.Fault
	if !errors.As(v.Is(api.List), &f) {
		t.Fatal("P15.1: Is: no fault")
	}
	f.Cmd, f.Err = "turned", api.ErrInt
	wantIs(t, v, api.List, false)
	wantIs(t, value.New(api.Set, 1, limits(0, 0)), api.List, false)
}

// P15.1, P15.2: every call of a nil value.
func TestNil(t *testing.T) {
	var v *value.Value
	if v.Len() != 0 || !v.Empty() || v.Copy() != nil {
		t.Errorf("P15.1: nil: Len %d, Empty %t, Copy %v", v.Len(), v.Empty(), v.Copy())
	}
	if v.Encoding() != "" || v.Type() != "none" {
		t.Errorf("P15.2: nil: Encoding %q, Type %q", v.Encoding(), v.Type())
	}
	for _, kind := range slices.Concat(kinds, noKinds) {
		if err := v.Is(kind); err != nil {
			t.Errorf("P15.1: nil: Is(%d): %v", kind, err)
		}
	}
	if !value.Same(v, nil) || !value.Same(v, v) || !value.Same(v, v.Copy()) {
		t.Error("P15.2: nil and nil are not Same")
	}
}

// P15.2: the names of the Kinds, whatever is in them.
func TestType(t *testing.T) {
	for kind, want := range map[int]string{api.String: "string", api.Hash: "hash", api.Set: "set", api.List: "list"} {
		for _, l := range ways {
			for _, n := range []int{0, 1, 5, 600} {
				if got := made(kind, 1, l, names(n)...).Type(); got != want {
					t.Errorf("P15.2: Type of Kind %d: %q, want %q", kind, got, want)
				}
			}
		}
	}
}

// R1: a value that nobody made but by hand, with a Kind that is none or without what its Kind says, ends no call by a panic.
func TestByHand(t *testing.T) {
	for _, kind := range slices.Concat(collections, noKinds) {
		v := &value.Value{Kind: kind, Text: "text"}
		if v.Len() != 0 || !v.Empty() || v.Copy() != nil || v.Type() != "none" || v.Encoding() != "" {
			t.Errorf("R1: Kind %d by hand: Len %d, Empty %t, Copy %v, Type %q, Encoding %q", kind, v.Len(), v.Empty(), v.Copy(), v.Type(), v.Encoding())
		}
		for _, other := range kinds {
			wantIs(t, v, other, false)
			wantSame(t, v, value.New(other, 1, limits(0, 0)), false, "one by hand")
		}
		wantSame(t, v, nil, false, "one by hand")
		wantSame(t, v, v, true, "one by hand")
		wantSame(t, v, &value.Value{Kind: 77}, false, "two by hand")
	}
}
