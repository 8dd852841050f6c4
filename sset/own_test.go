package sset_test

import (
	"math/rand"
	"slices"
	"testing"

	"tallboy/api"
	"tallboy/sset"
)

// wantCopy asks that c has what the model has; where its Scans end one behind the other is its own.
func wantCopy(t *testing.T, c *sset.Set, w *model) {
	t.Helper()
	wantMembers(t, c, w)
	wantPacked(t, c, w)
	for _, n := range draws {
		wantPick(t, c, w, n)
	}
	var all []string
	for at := uint64(0); ; {
		l, next := c.Scan(at, 10)
		all = append(all, l...)
		if at = next; at == 0 {
			break
		}
	}
	if !slices.Equal(sorted(all), w.all()) {
		t.Fatalf("W2: a copy: a chain tells %s of %d", brief(all), len(w.members))
	}
}

// P14.1: a copy has the same members, Packed as it is, and the same limits and seed.
func TestCopy(t *testing.T) {
	for i, l := range someLimits() {
		for _, n := range []int{0, 1, 2, 3, 100} {
			s, w := both(seeds[i%len(seeds)], l)
			for i := range n {
				wantAdd(t, s, w, sized(i, min(w.text, 3)))
			}
			c := s.Copy()
			wantSet(t, c, w)
			wantSet(t, s, w)
			// What comes behind it goes by the limits that the set was made with.
			wantAdd(t, c, w, "")
			wantAdd(t, c, w, sized(700, w.text))
			wantSet(t, c, w)
			wantAdd(t, c, w, sized(7, w.text+1))
			wantSet(t, c, w)
		}
	}
}

// P14.1: a copy of the greatest packed one, and of one member more, with the Adds that upgrade behind them.
func TestCopyAtLimits(t *testing.T) {
	s, w := filled(t, 1, limits(512, 60), names(512))
	c := s.Copy()
	if c.Add("one more"); c.Packed() || !s.Packed() {
		t.Errorf("P14.1: Packed %t of 513, %t of 512", c.Packed(), s.Packed())
	}
	wantSet(t, s, w)
	d := s.Copy()
	d.Remove("m0")
	if d.Add(sized(0, 61)); d.Packed() || !s.Packed() {
		t.Errorf("P14.1: Packed %t of 61 bytes, %t of 60", d.Packed(), s.Packed())
	}
	wantSet(t, s, w)
	wantAdd(t, s, w, "one more")
	e := s.Copy()
	wantCopy(t, e, w)
	wantSet(t, e, w)
	e.Remove("one more")
	if e.Packed() || e.Copy().Packed() {
		t.Error("P14.1: a copy is packed again")
	}
}

// P14.1: a copy of one that was upgraded and emptied is not packed, and has nothing.
func TestCopyOfEmptied(t *testing.T) {
	for _, n := range []int{1, 200, 1500} {
		s, w := filled(t, 1, api.Limits{}, names(n))
		for _, m := range names(n) {
			wantRemove(t, s, w, m)
		}
		c := s.Copy()
		wantCopy(t, c, w)
		if c.Packed() || c.Len() != 0 {
			t.Errorf("P14.1: a copy of nothing: Packed %t, Len %d", c.Packed(), c.Len())
		}
		c.Add("a")
		wantSet(t, s, w)
	}
}

// changes are calls that each change a set of m0, m1 and so on.
func changes() map[string]func(s *sset.Set) {
	return map[string]func(s *sset.Set){
		"new":    func(s *sset.Set) { s.Add("new") },
		"number": func(s *sset.Set) { s.Add("7") },
		"long":   func(s *sset.Set) { s.Add(longest) },
		"Remove": func(s *sset.Set) { s.Remove("m0") },
		"other":  func(s *sset.Set) { s.Remove("m0"); s.Add("m_") },
		"many": func(s *sset.Set) {
			for _, m := range names(700) {
				s.Add("and " + m)
			}
		},
		"all": func(s *sset.Set) {
			for _, m := range s.All() {
				s.Remove(m)
			}
		},
		"picked": func(s *sset.Set) {
			for m, ok := s.Pick(9); ok; m, ok = s.Pick(9) {
				s.Remove(m)
			}
		},
	}
}

// P14.1: what is done to a copy is not seen in the set, and what is done to the set is not seen in its copy; packed and not.
func TestCopyByItself(t *testing.T) {
	for _, l := range []api.Limits{{}, limits(5, 9), limits(200, 60)} {
		for _, n := range []int{1, 5, 150, 200, 300} {
			for name, change := range changes() {
				s, w := filled(t, 1, l, names(n))
				c := s.Copy()
				was := told(c, names(n))
				change(c)
				changed := told(c, names(n))
				if changed == was {
					t.Fatalf("%s changed nothing", name)
				}
				wantSet(t, s, w)
				d := s.Copy()
				change(s)
				wantSet(t, d, w)
				wantTold(t, d, names(n), was, "P14.1: a copy of what is changed by "+name)
				wantTold(t, c, names(n), changed, "P14.1: a changed copy")
				if s.Packed() != c.Packed() || !slices.Equal(sorted(s.All()), sorted(c.All())) {
					t.Errorf("P14.1: %s makes another one of a copy", name)
				}
			}
		}
	}
}

// P14.1: a copy stays when its set is emptied, and a copy's copy when the copy is.
func TestCopyStays(t *testing.T) {
	for _, l := range []api.Limits{{}, limits(200, 60)} {
		s, w := filled(t, 1, l, names(150))
		c := s.Copy()
		d := c.Copy()
		for _, m := range names(150) {
			s.Remove(m)
			c.Remove(m)
		}
		wantSet(t, d, w)
		if s.Len() != 0 || c.Len() != 0 || len(s.All()) != 0 || len(c.All()) != 0 {
			t.Errorf("P14.1: emptied: %d, %d", s.Len(), c.Len())
		}
	}
}

// turn writes over a list, its spare room too.
func turn(l []string) {
	for i := range l[:cap(l)] {
		l[:cap(l)][i] = "turned"
	}
}

// R2: what a call told may be turned, spare room and all, and no later call turns it.
func TestAnswersByThemselves(t *testing.T) {
	for _, l := range []api.Limits{{}, limits(512, 60)} {
		for _, n := range []int{1, 30, 300, 700} {
			s, w := filled(t, 1, l, names(n))
			other, v := filled(t, 1, limits(40, 60), names(n/2))
			ask := func() [][]string {
				some, _ := s.Scan(0, 3)
				return [][]string{s.All(), some, sset.Inter(s), sset.Union(s), sset.Diff(s), sset.Inter(s, s), sset.Inter(s, other), sset.Union(s, other), sset.Union(nil, s), sset.Diff(s, other), sset.Diff(s, nil)}
			}
			turned, kept := ask(), ask()
			var want [][]string
			for _, l := range kept {
				want = append(want, slices.Clone(l))
			}
			for _, l := range turned {
				turn(l)
			}
			wantSet(t, s, w)
			wantSet(t, other, v)
			for _, m := range names(n) {
				wantAdd(t, s, w, m)
				wantAdd(t, s, w, "and "+m)
			}
			for _, m := range names(n) {
				wantRemove(t, s, w, m)
			}
			for i := range kept {
				if !slices.Equal(kept[i], want[i]) {
					t.Fatalf("R2: answer %d is turned by a later call, or shares memory with another one", i)
				}
			}
		}
	}
}

// R4: the same calls answer the same, every order included; calls that only ask change nothing.
func TestAgain(t *testing.T) {
	for seed := range int64(12) {
		one, other := rand.New(rand.NewSource(seed)), rand.New(rand.NewSource(seed))
		l := limits(int(seed)*20, 60)
		s, w := both(uint64(seed), l)
		u, v := both(uint64(seed), l)
		members := append(names(250), someTexts()[:int(seed)]...)
		for range 30 {
			for range 20 {
				play(t, one, s, w, members, 8)
				play(t, other, u, v, members, 8)
			}
			u.All()
			u.Scan(5, 5)
			u.Copy().Add(longest)
			u.Add(tooLong)
			u.Pick(5)
			sset.Inter(u, s)
			sset.Union(u, s)
			sset.Diff(u, s)
			wantTold(t, u, members, told(s, members), "R4: the same calls")
		}
	}
}
