package sset_test

import (
	"math"
	"math/rand"
	"testing"

	"tallboy/api"
)

// P14.1: Pick of none: empty, false, whatever n is; of one: that one.
func TestPickOfFew(t *testing.T) {
	for name, l := range ways {
		for _, m := range []string{"", "a", "7", "-1", "\x00", "x y"} {
			s, w := both(1, l)
			for _, n := range draws {
				if got, ok := s.Pick(n); got != "" || ok {
					t.Errorf("P14.1: %s: Pick(%d) of none: %q, %t", name, n, got, ok)
				}
			}
			wantAdd(t, s, w, m)
			for _, n := range draws {
				if got, ok := s.Pick(n); got != m || !ok {
					t.Errorf("P14.1: %s: Pick(%d) of one: %q, %t, want %q", name, n, got, ok, m)
				}
			}
			wantRemove(t, s, w, m)
			for _, n := range draws {
				if got, ok := s.Pick(n); got != "" || ok {
					t.Errorf("P14.1: %s: Pick(%d) of none again: %q, %t", name, n, got, ok)
				}
			}
		}
	}
}

// P14.1: Pick of many, packed and not, of deep dicts too: one that is there, and changes nothing.
func TestPickOfMany(t *testing.T) {
	for _, seed := range seeds[2:5] {
		for _, l := range []api.Limits{{}, limits(512, 60)} {
			for _, n := range []int{2, 3, 8, 112, 113, 512, 513, 900} {
				s, w := filled(t, seed, l, names(n))
				was := told(s, names(n))
				for i := range uint64(n + 10) {
					wantPick(t, s, w, i)
					wantPick(t, s, w, math.MaxUint64-i)
				}
				wantTold(t, s, names(n), was, "P14.1: Pick")
			}
		}
	}
}

// P14.1: the same for the same set and n: whatever is asked between, and where nothing was changed.
func TestPickAgain(t *testing.T) {
	for _, l := range []api.Limits{{}, limits(512, 60)} {
		s, w := filled(t, 5, l, names(300))
		var was []string
		for _, n := range draws {
			m, _ := wantPick(t, s, w, n)
			was = append(was, m)
		}
		s.All()
		s.Scan(3, 3)
		s.Has("m7")
		s.Copy().Remove("m7")
		wantAdd(t, s, w, "m7")
		wantAdd(t, s, w, tooLong)
		wantRemove(t, s, w, "never there")
		for i, n := range draws {
			if m, _ := wantPick(t, s, w, n); m != was[i] {
				t.Errorf("P14.1: Pick(%d): %q, then %q", n, was[i], m)
			}
		}
	}
}

// P14.1: members are picked and removed one after the other, by the same number, by rising ones, by the greatest, by chance: each once, until none is left.
func TestPickUntilNone(t *testing.T) {
	r := rand.New(rand.NewSource(6))
	for name, draw := range map[string]func(i int) uint64{
		"0":        func(int) uint64 { return 0 },
		"rising":   func(i int) uint64 { return uint64(i) },
		"greatest": func(int) uint64 { return math.MaxUint64 },
		"falling":  func(i int) uint64 { return math.MaxUint64 - uint64(i) },
		"chance":   func(int) uint64 { return r.Uint64() },
	} {
		for _, l := range []api.Limits{{}, limits(100, 9), limits(512, 60)} {
			for _, n := range []int{1, 2, 100, 101, 512, 700} {
				s, w := filled(t, 2, l, names(n))
				for i := range n {
					m, ok := wantPick(t, s, w, draw(i))
					if !ok {
						t.Fatalf("P14.1: %s: none is left behind %d of %d", name, i, n)
					}
					wantRemove(t, s, w, m)
					if s.Has(m) || s.Len() != n-i-1 {
						t.Fatalf("P14.1: %s: %q is still there, Len %d", name, m, s.Len())
					}
				}
				wantSet(t, s, w)
				if m, ok := s.Pick(draw(n)); m != "" || ok {
					t.Fatalf("P14.1: %s: Pick of none: %q, %t", name, m, ok)
				}
			}
		}
	}
}

// P14.1: Pick between Adds, through the upgrade.
func TestPickThroughUpgrade(t *testing.T) {
	for _, seed := range seeds {
		s, w := both(seed, limits(100, 9))
		for i, m := range names(300) {
			wantAdd(t, s, w, m)
			for _, n := range draws {
				wantPick(t, s, w, n)
			}
			if s.Packed() != (i < 100) {
				t.Fatalf("P14.1: Packed %t of %d", s.Packed(), i+1)
			}
		}
	}
}
