package sset_test

import (
	"slices"
	"strings"
	"testing"

	"tallboy/api"
	"tallboy/sset"
)

// The chapter's run: Add(a), Add(a): true, false.
func TestRun(t *testing.T) {
	for name, l := range ways {
		s := sset.New(1, l)
		one, why := s.Add("a")
		two, also := s.Add("a")
		if !one || two || why != api.OK || also != api.OK {
			t.Errorf("P14.1: %s: %t, %d, %t, %d", name, one, why, two, also)
		}
		if !s.Has("a") || s.Len() != 1 || !slices.Equal(s.All(), []string{"a"}) {
			t.Errorf("P14.1: %s: Has %t, Len %d, All %q", name, s.Has("a"), s.Len(), s.All())
		}
	}
}

// The chapter's examples: Pick of nothing; Diff of one.
func TestExamples(t *testing.T) {
	for name, l := range ways {
		s := sset.New(1, l)
		if m, ok := s.Pick(0); m != "" || ok {
			t.Errorf("P14.1: %s: Pick of nothing: %q, %t", name, m, ok)
		}
		if got := sset.Diff(s); len(got) != 0 {
			t.Errorf("P14.2: %s: Diff of nothing: %q", name, got)
		}
		s.Add("a")
		s.Add("b")
		if got := sset.Diff(s); !slices.Equal(sorted(got), []string{"a", "b"}) || !slices.Equal(sorted(got), sorted(s.All())) {
			t.Errorf("P14.2: %s: Diff of one: %q", name, got)
		}
	}
}

// P14.1: a new set has nothing.
func TestNothing(t *testing.T) {
	for _, seed := range seeds {
		for _, l := range someLimits() {
			s, w := both(seed, l)
			wantSet(t, s, w)
			for _, m := range someTexts() {
				wantHas(t, s, w, m)
				wantRemove(t, s, w, m)
			}
			wantSet(t, s, w)
			if len(s.All()) != 0 || s.Len() != 0 || !s.Packed() {
				t.Errorf("P14.1: nothing: All %q, Len %d, Packed %t", s.All(), s.Len(), s.Packed())
			}
		}
	}
}

// P14.1: members of any bytes: alone, each beside each, and all of them.
func TestTexts(t *testing.T) {
	for name, l := range ways {
		for _, a := range someTexts() {
			for _, b := range someTexts() {
				s, w := both(1, l)
				wantAdd(t, s, w, a)
				wantHas(t, s, w, b)
				wantRemove(t, s, w, b)
				wantAdd(t, s, w, b)
				wantAdd(t, s, w, a)
				wantMembers(t, s, w)
				wantRemove(t, s, w, a)
				wantRemove(t, s, w, a)
				wantMembers(t, s, w)
			}
		}
		s, w := filled(t, 1, l, someTexts())
		if s.Len() != len(someTexts()) {
			t.Errorf("P14.1: %s: %d members", name, s.Len())
		}
		for _, m := range someTexts() {
			wantAdd(t, s, w, m)
			wantRemove(t, s, w, m)
			wantHas(t, s, w, m)
			wantRemove(t, s, w, m)
		}
		wantSet(t, s, w)
	}
}

// P14.1: ErrLong above MaxEntry bytes; behind it everything is told as before, R3.
func TestTooLong(t *testing.T) {
	much := strings.Repeat("y", 1<<20)
	for _, l := range []api.Limits{{}, limits(3, 9), limits(4, 9), limits(512, 60)} {
		for n := range 6 {
			members := append(names(n), "", longest, tooLong, much)
			s, w := filled(t, 1, l, names(n))
			was, packed := told(s, members), s.Packed()
			for _, m := range []string{tooLong, much, strings.Repeat("1", 4097), strings.Repeat("\x00", 1<<16), tooLong} {
				if fresh, why := s.Add(m); fresh || why != api.ErrLong {
					t.Errorf("P14.1: Add of %d bytes: %t, %d", len(m), fresh, why)
				}
				wantTold(t, s, members, was, "R3: an Add that was refused")
			}
			if s.Packed() != packed || s.Has(tooLong) || s.Remove(tooLong) {
				t.Errorf("R3: an Add that was refused: Packed %t, Has %t", s.Packed(), s.Has(tooLong))
			}
			wantSet(t, s, w)
			wantAdd(t, s, w, longest)
			wantAdd(t, s, w, longest)
			wantSet(t, s, w)
			if _, why := s.Add(tooLong); why != api.ErrLong || !s.Has(longest) {
				t.Errorf("P14.1: Add of %d bytes beside %d: %d", len(tooLong), len(longest), why)
			}
			wantSet(t, s, w)
		}
	}
}

// P14.1: an Add of a member that is there changes nothing, not even an order.
func TestAddAgain(t *testing.T) {
	for _, l := range []api.Limits{{}, limits(5, 9), limits(30, 9), limits(512, 60)} {
		for _, n := range []int{1, 5, 30, 113, 300} {
			s, w := filled(t, 1, l, names(n))
			was := told(s, names(n))
			for _, m := range names(n) {
				wantAdd(t, s, w, m)
			}
			wantTold(t, s, names(n), was, "P14.1: members that were there")
		}
	}
}

// P14.1: Remove and Has of what is not there change nothing.
func TestNotThere(t *testing.T) {
	for name, l := range ways {
		for _, n := range []int{0, 1, 30, 300} {
			s, w := filled(t, 1, l, names(n))
			was := told(s, names(n))
			for _, m := range []string{"", "m", "M0", "m00", "m0 ", "0", "m300", longest, tooLong} {
				wantHas(t, s, w, m)
				wantRemove(t, s, w, m)
			}
			wantTold(t, s, names(n), was, "P14.1: "+name+": Remove of what is not there")
		}
	}
}

// P14.1: all members are taken away, from each end and from the midst, and added again.
func TestEmptied(t *testing.T) {
	for name, l := range ways {
		for _, turn := range []func([]string){func([]string) {}, slices.Reverse[[]string], func(l []string) { slices.SortFunc(l, func(a, b string) int { return strings.Compare(b[1:], a[1:]) }) }} {
			s, w := filled(t, 1, l, names(30))
			order := names(30)
			turn(order)
			for _, m := range order {
				wantRemove(t, s, w, m)
				wantRemove(t, s, w, m)
				wantSet(t, s, w)
			}
			if s.Len() != 0 || len(s.All()) != 0 || s.Packed() != (name == "packed") {
				t.Errorf("P14.1: %s: emptied: Len %d, All %q, Packed %t", name, s.Len(), s.All(), s.Packed())
			}
			for _, m := range order {
				wantAdd(t, s, w, m)
			}
			wantSet(t, s, w)
		}
	}
}

// P14.1: many members, more than one table has.
func TestMany(t *testing.T) {
	for _, seed := range seeds {
		s, w := filled(t, seed, limits(512, 60), names(3000))
		for i, m := range names(3000) {
			if i%3 > 0 {
				wantRemove(t, s, w, m)
			} else {
				wantAdd(t, s, w, m)
			}
		}
		wantSet(t, s, w)
	}
}

// P14.1: members of one hash, more than one table has.
func TestOneHash(t *testing.T) {
	var zeros []string
	for n := range 300 {
		zeros = append(zeros, strings.Repeat("\x00", n))
	}
	for _, l := range []api.Limits{{}, limits(512, 60)} {
		s, w := both(begin, l)
		for _, m := range zeros {
			wantAdd(t, s, w, m)
		}
		wantMembers(t, s, w)
		for _, m := range zeros[50:200] {
			wantRemove(t, s, w, m)
		}
		wantMembers(t, s, w)
		for _, n := range draws {
			wantPick(t, s, w, n)
		}
	}
}

// P14.1, R4: a member is its bytes, wherever they lie; what becomes of them later is nothing to the set.
func TestMembersByBytes(t *testing.T) {
	for name, l := range ways {
		s := sset.New(3, l)
		b := []byte("some member")
		s.Add(string(b[5:]))
		copy(b, "***********")
		if !s.Has("member") || s.Has("******") {
			t.Errorf("P14.1: %s: %q", name, s.All())
		}
		if fresh, _ := s.Add(strings.Join([]string{"mem", "ber"}, "")); fresh || s.Len() != 1 {
			t.Errorf("P14.1: %s: the same bytes are new", name)
		}
	}
}
