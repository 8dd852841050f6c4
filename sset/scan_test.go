package sset_test

import (
	"fmt"
	"math/rand"
	"slices"
	"strings"
	"testing"

	"tallboy/api"
	"tallboy/sset"
)

// P14.1: a packed one tells all members, and 0, whatever the cursor and the count are.
func TestScanOfPacked(t *testing.T) {
	for _, seed := range seeds {
		for _, n := range []int{0, 1, 2, 112, 113, 512} {
			s, w := filled(t, seed, limits(512, 60), names(n))
			for _, c := range cursors {
				for _, count := range counts {
					if l, next := s.Scan(c, count); next != 0 || !slices.Equal(sorted(l), w.all()) {
						t.Fatalf("P14.1: Scan(%d, %d) of %d packed: %s, %d", c, count, n, brief(l), next)
					}
				}
			}
			if !s.Packed() {
				t.Fatalf("P14.1: %d members are not packed", n)
			}
		}
	}
}

// P14.1: one that is not packed tells dict.Scan's keys, and its cursor, from any cursor with any count.
func TestScanOfUnpacked(t *testing.T) {
	for _, seed := range seeds {
		for _, l := range []api.Limits{{}, limits(50, 9), limits(512, 60)} {
			for _, n := range []int{1, 113, 513, 900} {
				s, w := filled(t, seed, l, names(n))
				for _, c := range cursors {
					for _, count := range counts {
						wantScan(t, s, w, c, count)
					}
				}
			}
		}
	}
}

// P14.1: the seed makes the order: chains of two seeds go by other cursors.
func TestScanBySeed(t *testing.T) {
	chains := map[string]int{}
	for seed := range uint64(10) {
		s, w := filled(t, seed, api.Limits{}, names(1000))
		chain := ""
		for c := uint64(0); ; {
			l, next := wantScan(t, s, w, c, 50)
			chain += fmt.Sprint(len(l), " ", next, "\n")
			if c = next; c == 0 {
				break
			}
		}
		chains[chain]++
	}
	if len(chains) < 2 {
		t.Error("P14.1: all seeds scan alike")
	}
}

// wantChain is W2 of a set that is changed by between behind each Scan: the members that stay are told, and (as each Scan is held against the model) none that is not there.
func wantChain(t *testing.T, s *sset.Set, w *model, stay []string, count func() int, between func()) {
	t.Helper()
	seen := map[string]int{}
	for c, steps := uint64(0), 0; ; steps++ {
		l, next := wantScan(t, s, w, c, count())
		for _, m := range l {
			seen[m]++
		}
		if c = next; c == 0 {
			break
		}
		if steps > 1<<17 {
			t.Fatal("W2: a chain without an end")
		}
		between()
	}
	for _, m := range stay {
		if seen[m] == 0 {
			t.Fatalf("W2: %.24q is missed, of %d", m, s.Len())
		}
	}
}

// W2: chains of one that is not changed, with each count: each member just once.
func TestChainsOfUnchanged(t *testing.T) {
	for _, seed := range seeds {
		for _, n := range []int{0, 1, 112, 113, 600, 2000} {
			s, w := filled(t, seed, limits(100, 60), names(n))
			for _, count := range counts {
				told := 0
				for c := uint64(0); ; {
					l, next := wantScan(t, s, w, c, count)
					told += len(l)
					if c = next; c == 0 {
						break
					}
				}
				if told != n {
					t.Fatalf("W2: a chain by %d tells %d of %d", count, told, n)
				}
				wantChain(t, s, w, names(n), func() int { return count }, func() {})
			}
		}
	}
}

// W2: chains with members added and removed between, so that the directory deepens in their midst.
func TestChainsOfChanged(t *testing.T) {
	r := rand.New(rand.NewSource(3))
	for round := range 40 {
		stay := names(r.Intn(700))
		s, w := filled(t, seeds[round%len(seeds)], limits(r.Intn(300), 9), stay)
		count := func() int { return 1 + r.Intn(20) }
		adds := 3 + r.Intn(8)
		wantChain(t, s, w, stay, count, func() {
			for range r.Intn(80) {
				m := fmt.Sprint("other", r.Intn(2500))
				if r.Intn(10) < adds {
					wantAdd(t, s, w, m)
				} else {
					wantRemove(t, s, w, m)
				}
			}
			if len(stay) > 0 {
				wantAdd(t, s, w, stay[r.Intn(len(stay))])
			}
		})
		wantMembers(t, s, w)
	}
}

// upgrades are Adds by which a packed set of at most 512 short members, with those limits, comes to be a dict.
func upgrades() map[string]func(t *testing.T, s *sset.Set, w *model) {
	return map[string]func(t *testing.T, s *sset.Set, w *model){
		"Entries": func(t *testing.T, s *sset.Set, w *model) {
			for n := 0; s.Packed(); n++ {
				wantAdd(t, s, w, fmt.Sprint("more", n))
			}
		},
		"Text": func(t *testing.T, s *sset.Set, w *model) { wantAdd(t, s, w, strings.Repeat("x", 61)) },
		"many": func(t *testing.T, s *sset.Set, w *model) {
			for n := range 1000 {
				wantAdd(t, s, w, fmt.Sprint("many", n, longest[:n%70]))
			}
		},
	}
}

// W2: an upgrade in the midst of a chain: what a packed one told ends the chain, and whoever goes on from any cursor that he had still comes to 0, and tells what was there.
func TestChainsThroughUpgrade(t *testing.T) {
	for _, seed := range seeds {
		for _, n := range []int{1, 113, 512} {
			for name, upgrade := range upgrades() {
				s, w := filled(t, seed, limits(512, 60), names(n))
				seen := map[string]int{}
				l, c := wantScan(t, s, w, 0, 1)
				for _, m := range l {
					seen[m]++
				}
				upgrade(t, s, w)
				if s.Packed() {
					t.Fatalf("P14.1: %s does not unpack", name)
				}
				for c != 0 {
					l, c = wantScan(t, s, w, c, 1)
					for _, m := range l {
						seen[m]++
					}
				}
				for _, m := range names(n) {
					if seen[m] == 0 {
						t.Fatalf("W2: %s: %s is missed", name, m)
					}
				}
				wantChain(t, s, w, names(n), func() int { return 10 }, func() {})
			}
		}
	}
}

// W2: a chain of a deep dict that was emptied but for some members, and one of a dict that was emptied whole.
func TestChainsOfEmptied(t *testing.T) {
	for _, seed := range seeds {
		s, w := filled(t, seed, api.Limits{}, names(3000))
		for _, left := range []int{2000, 100, 1, 0} {
			for _, m := range names(3000)[left:] {
				wantRemove(t, s, w, m)
			}
			for _, count := range []int{1, 10, 1000} {
				wantChain(t, s, w, names(left), func() int { return count }, func() {})
			}
			wantSet(t, s, w)
		}
	}
}

// W2: members are taken away while a chain goes on, those that were told and those that were not.
func TestChainsOfWaning(t *testing.T) {
	for _, seed := range seeds {
		s, w := filled(t, seed, limits(9, 9), names(1200))
		gone := names(1200)[100:]
		wantChain(t, s, w, names(100), func() int { return 7 }, func() {
			for range min(len(gone), 40) {
				wantRemove(t, s, w, gone[0])
				gone = gone[1:]
			}
		})
	}
}
