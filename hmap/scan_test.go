package hmap_test

import (
	"fmt"
	"math/rand"
	"slices"
	"strings"
	"testing"

	"tallboy/api"
	"tallboy/hmap"
)

// P13.2: a packed one tells all pairs, and 0, whatever the cursor and the count are.
func TestScanOfPacked(t *testing.T) {
	for _, seed := range seeds {
		for _, n := range []int{0, 1, 2, 112, 113, 512} {
			m, w := filled(t, seed, limits(512, 60), names(n))
			for _, c := range cursors {
				for _, count := range counts {
					if l, next := m.Scan(c, count); next != 0 || !slices.Equal(sorted(l), w.all()) {
						t.Fatalf("P13.2: Scan(%d, %d) of %d packed: %s, %d", c, count, n, brief(l), next)
					}
				}
			}
			if !m.Packed() {
				t.Fatalf("P13.2: %d fields are not packed", n)
			}
		}
	}
}

// P13.2: one that is not packed tells the pairs of dict.Scan's keys, and its cursor, from any cursor with any count.
func TestScanOfUnpacked(t *testing.T) {
	for _, seed := range seeds {
		for _, l := range []api.Limits{{}, limits(50, 9), limits(512, 60)} {
			for _, n := range []int{1, 113, 513, 900} {
				m, w := filled(t, seed, l, names(n))
				for _, c := range cursors {
					for _, count := range counts {
						wantScan(t, m, w, c, count)
					}
				}
			}
		}
	}
}

// P13.2: the seed makes the order: chains of two seeds go by other cursors.
func TestScanBySeed(t *testing.T) {
	chains := map[string]int{}
	for seed := range uint64(10) {
		m, w := filled(t, seed, api.Limits{}, names(1000))
		chain := ""
		for c := uint64(0); ; {
			l, next := wantScan(t, m, w, c, 50)
			chain += fmt.Sprint(len(l), " ", next, "\n")
			if c = next; c == 0 {
				break
			}
		}
		chains[chain]++
	}
	if len(chains) < 2 {
		t.Error("P13.2: all seeds scan alike")
	}
}

// wantChain is P13.3 of a hash that is changed by between behind each Scan: the fields that stay, each with what it had, and no field that never was there.
func wantChain(t *testing.T, m *hmap.Map, w *model, stay []string, count func() int, between func()) {
	t.Helper()
	seen := map[string]int{}
	for c, steps := uint64(0), 0; ; steps++ {
		l, next := wantScan(t, m, w, c, count())
		for _, p := range l {
			seen[p.Field]++
		}
		if c = next; c == 0 {
			break
		}
		if steps > 1<<17 {
			t.Fatal("P13.3: a chain without an end")
		}
		between()
	}
	for _, f := range stay {
		if seen[f] == 0 {
			t.Fatalf("P13.3: %.24q is missed, of %d", f, m.Len())
		}
	}
}

// P13.3: chains of one that is not changed, with each count: each field just once.
func TestChainsOfUnchanged(t *testing.T) {
	for _, seed := range seeds {
		for _, n := range []int{0, 1, 112, 113, 600, 2000} {
			m, w := filled(t, seed, limits(100, 60), names(n))
			for _, count := range counts {
				told := 0
				for c := uint64(0); ; {
					l, next := wantScan(t, m, w, c, count)
					told += len(l)
					if c = next; c == 0 {
						break
					}
				}
				if told != n {
					t.Fatalf("P13.3: a chain by %d tells %d of %d", count, told, n)
				}
				wantChain(t, m, w, names(n), func() int { return count }, func() {})
			}
		}
	}
}

// P13.3: chains with fields set and deleted between, so that the directory deepens in their midst.
func TestChainsOfChanged(t *testing.T) {
	r := rand.New(rand.NewSource(3))
	for round := range 40 {
		stay := names(r.Intn(700))
		m, w := filled(t, seeds[round%len(seeds)], limits(r.Intn(300), 9), stay)
		count := func() int { return 1 + r.Intn(20) }
		sets := 3 + r.Intn(8)
		wantChain(t, m, w, stay, count, func() {
			for range r.Intn(80) {
				f := fmt.Sprint("other", r.Intn(2500))
				if r.Intn(10) < sets {
					wantSet(t, m, w, f, "v")
				} else {
					wantDelete(t, m, w, f)
				}
			}
			if len(stay) > 0 {
				// What a field has may change while it stays.
				wantSet(t, m, w, stay[r.Intn(len(stay))], fmt.Sprint(r.Intn(1000)))
			}
		})
		wantPairs(t, m, w)
	}
}

// upgrades are Sets by which a packed hash of at most 512 short fields, with those limits, comes to be a dict.
func upgrades() map[string]func(t *testing.T, m *hmap.Map, w *model) {
	return map[string]func(t *testing.T, m *hmap.Map, w *model){
		"Entries": func(t *testing.T, m *hmap.Map, w *model) {
			for n := 0; m.Packed(); n++ {
				wantSet(t, m, w, fmt.Sprint("more", n), "")
			}
		},
		"field": func(t *testing.T, m *hmap.Map, w *model) { wantSet(t, m, w, strings.Repeat("x", 61), "") },
		"value": func(t *testing.T, m *hmap.Map, w *model) { wantSet(t, m, w, "f0", strings.Repeat("x", 61)) },
		"many": func(t *testing.T, m *hmap.Map, w *model) {
			for n := range 1000 {
				wantSet(t, m, w, fmt.Sprint("many", n), longest[:n%70])
			}
		},
	}
}

// P13.3: an upgrade in the midst of a chain: what a packed one told ends the chain, and whoever goes on from any cursor that he had still comes to 0, and tells what was there.
func TestChainsThroughUpgrade(t *testing.T) {
	for _, seed := range seeds {
		for _, n := range []int{1, 113, 512} {
			for name, upgrade := range upgrades() {
				m, w := filled(t, seed, limits(512, 60), names(n))
				seen := map[string]int{}
				l, c := wantScan(t, m, w, 0, 1)
				for _, p := range l {
					seen[p.Field]++
				}
				upgrade(t, m, w)
				if m.Packed() {
					t.Fatalf("P13.2: %s does not unpack", name)
				}
				for c != 0 {
					l, c = wantScan(t, m, w, c, 1)
					for _, p := range l {
						seen[p.Field]++
					}
				}
				for _, f := range names(n) {
					if seen[f] == 0 {
						t.Fatalf("P13.3: %s: %s is missed", name, f)
					}
				}
				wantChain(t, m, w, names(n), func() int { return 10 }, func() {})
			}
		}
	}
}

// P13.3: a chain of a deep dict that was emptied but for some fields, and one of a dict that was emptied whole.
func TestChainsOfEmptied(t *testing.T) {
	for _, seed := range seeds {
		m, w := filled(t, seed, api.Limits{}, names(3000))
		for _, left := range []int{2000, 100, 1, 0} {
			for _, f := range names(3000)[left:] {
				wantDelete(t, m, w, f)
			}
			for _, count := range []int{1, 10, 1000} {
				wantChain(t, m, w, names(left), func() int { return count }, func() {})
			}
			wantMap(t, m, w)
		}
	}
}

// P13.3: fields are taken away while a chain goes on, those that were told and those that were not.
func TestChainsOfWaning(t *testing.T) {
	for _, seed := range seeds {
		m, w := filled(t, seed, limits(9, 9), names(1200))
		gone := names(1200)[100:]
		wantChain(t, m, w, names(100), func() int { return 7 }, func() {
			for range min(len(gone), 40) {
				wantDelete(t, m, w, gone[0])
				gone = gone[1:]
			}
		})
	}
}
