package sset_test

import (
	"fmt"
	"math"
	"strings"
	"testing"

	"tallboy/api"
	"tallboy/sset"
)

// P14.1: limits, written out: how many members of how many bytes a set has packed.
func TestLimits(t *testing.T) {
	for _, c := range []struct{ entries, text, most, bytes int }{
		{math.MinInt, 60, 0, 60},
		{-1 << 32, 60, 0, 60},
		{-1, 60, 0, 60},
		{0, 60, 0, 60},
		{1, 60, 1, 60},
		{2, 5, 2, 5},
		{100, 59, 100, 59},
		{511, 60, 511, 60},
		{512, 60, 512, 60},
		{513, 60, 512, 60},
		{600, 61, 512, 60},
		{1 << 32, 1 << 32, 512, 60},
		{1<<32 + 1, 1<<32 + 1, 512, 60},
		{math.MaxInt, math.MaxInt, 512, 60},
	} {
		s := sset.New(1, limits(c.entries, c.text))
		for n := range c.most {
			if !s.Packed() {
				t.Fatalf("P14.1: limits %d, %d: not packed of %d members", c.entries, c.text, n)
			}
			s.Add(sized(n, c.bytes))
		}
		if !s.Packed() || s.Len() != c.most {
			t.Fatalf("P14.1: limits %d, %d: %d members, Packed %t", c.entries, c.text, s.Len(), s.Packed())
		}
		for n := range c.most {
			if fresh, why := s.Add(sized(n, c.bytes)); fresh || why != api.OK || !s.Packed() {
				t.Fatalf("P14.1: limits %d, %d: not packed of %d members that were added again", c.entries, c.text, s.Len())
			}
		}
		if fresh, why := s.Add("z"); !fresh || why != api.OK || s.Packed() || s.Len() != c.most+1 {
			t.Errorf("P14.1: limits %d, %d: one member more: %t, %d, Packed %t", c.entries, c.text, fresh, why, s.Packed())
		}
		for n := range c.most {
			if !s.Has(sized(n, c.bytes)) {
				t.Errorf("P14.1: limits %d, %d: member %d is lost by the upgrade", c.entries, c.text, n)
			}
		}
	}
}

// P14.1: the bytes of a member, at Text and one above it; Text below 0 counts as 0, above 60 as 60.
func TestText(t *testing.T) {
	for _, c := range []struct{ text, bytes int }{
		{math.MinInt, 0}, {-1 << 32, 0}, {-1, 0}, {0, 0}, {1, 1}, {5, 5}, {9, 9}, {59, 59}, {60, 60}, {61, 60}, {64, 60}, {4096, 60}, {1 << 32, 60}, {1<<32 + 5, 60}, {math.MaxInt, 60},
	} {
		for _, x := range []struct {
			member string
			want   bool
		}{
			{"", true}, {strings.Repeat("x", c.bytes), true}, {strings.Repeat("x", c.bytes+1), false}, {longest, false}, {tooLong, true},
		} {
			s := sset.New(1, limits(3, c.text))
			s.Add(x.member)
			if s.Packed() != x.want {
				t.Errorf("P14.1: Text %d: Add of %d bytes: Packed %t", c.text, len(x.member), s.Packed())
			}
			s = sset.New(1, limits(3, c.text))
			s.Add("")
			s.Add(strings.Repeat("y", c.bytes))
			s.Add(x.member)
			if s.Packed() != x.want || !s.Has("") || !s.Has(strings.Repeat("y", c.bytes)) {
				t.Errorf("P14.1: Text %d: Add of %d bytes beside others: Packed %t", c.text, len(x.member), s.Packed())
			}
		}
	}
}

// P14.1: Numbers have as many bytes as their text, however they lie in a pack.
func TestTextOfNumbers(t *testing.T) {
	for _, c := range []struct {
		text   int
		member string
		want   bool
	}{{1, "5", true}, {1, "12", false}, {2, "12", true}, {2, "127", false}, {18, "9223372036854775807", false}, {19, "9223372036854775807", true}, {19, "-9223372036854775808", false}, {20, "-9223372036854775808", true}} {
		s := sset.New(1, limits(3, c.text))
		s.Add(c.member)
		if s.Packed() != c.want || !s.Has(c.member) {
			t.Errorf("P14.1: Text %d: Add(%q): Packed %t", c.text, c.member, s.Packed())
		}
	}
}

// P14.1: all limits, with members that come and go below Entries, at it and above it.
func TestPackedEverywhere(t *testing.T) {
	for _, l := range someLimits() {
		s, w := both(1, l)
		most := w.entries
		for n := range most + 1 {
			m := sized(n, min(w.text, 4))
			wantAdd(t, s, w, m)
			if n > 1 && n+2 >= most {
				wantRemove(t, s, w, m)
				wantAdd(t, s, w, m)
				wantAdd(t, s, w, m)
			}
		}
		wantSet(t, s, w)
		wantAdd(t, s, w, "one more")
		wantSet(t, s, w)
	}
}

// P14.1: what was upgraded stays so: emptied, and filled again within its limits.
func TestForEver(t *testing.T) {
	for _, more := range []string{"3", "123456", longest} {
		s := sset.New(1, limits(2, 5))
		s.Add("1")
		if len(more) == 1 {
			s.Add("2")
		}
		if s.Add(more); s.Packed() {
			t.Fatalf("P14.1: %.9s: packed", more)
		}
		for _, m := range []string{more, "2", "1"} {
			if s.Remove(m); s.Packed() {
				t.Errorf("P14.1: %.9s: packed again of %d", more, s.Len())
			}
		}
		if s.Len() != 0 || len(s.All()) != 0 || s.Remove("1") || s.Has("1") {
			t.Errorf("P14.1: %.9s: emptied: %d, %q", more, s.Len(), s.All())
		}
		if m, ok := s.Pick(3); m != "" || ok {
			t.Errorf("P14.1: %.9s: emptied: Pick: %q, %t", more, m, ok)
		}
		if l, c := s.Scan(0, 1); len(l) != 0 || c != 0 || s.Packed() || s.Copy().Packed() {
			t.Errorf("P14.1: %.9s: emptied: Scan: %q, %d, Packed %t, %t", more, l, c, s.Packed(), s.Copy().Packed())
		}
		if fresh, _ := s.Add("1"); !fresh || s.Packed() || s.Copy().Packed() {
			t.Errorf("P14.1: %.9s: filled again: %t, Packed %t", more, fresh, s.Packed())
		}
	}
}

// P14.1: a set that was not above its limits at any time stays packed, whatever came and went.
func TestStaysPacked(t *testing.T) {
	s, w := both(1, limits(3, 5))
	for n := range 500 {
		wantAdd(t, s, w, fmt.Sprint(n))
		if n > 1 {
			wantRemove(t, s, w, fmt.Sprint(n-2))
		}
		s.Add(tooLong)
		s.Remove("123456")
		s.Has("123456")
		s.Pick(uint64(n))
	}
	wantSet(t, s, w)
	if !s.Packed() {
		t.Error("P14.1: not packed")
	}
}

// R2: limits that were handed in may be changed later.
func TestLimitsNotKept(t *testing.T) {
	l := limits(2, 5)
	s := sset.New(1, l)
	l.Entries, l.Text = 0, 0
	s.Add("a")
	s.Add("b")
	if !s.Packed() {
		t.Errorf("R2: limits %v are asked later", l)
	}
}
