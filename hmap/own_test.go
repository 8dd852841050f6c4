package hmap_test

import (
	"math/rand"
	"slices"
	"strconv"
	"strings"
	"testing"

	"tallboy/api"
	"tallboy/hmap"
)

// wantCopy asks that c has what the model has; where its Scans end one behind the other is its own.
func wantCopy(t *testing.T, c *hmap.Map, w *model) {
	t.Helper()
	wantPairs(t, c, w)
	if c.Packed() != (w.fields == nil) {
		t.Fatalf("P13.2: a copy: Packed %t", c.Packed())
	}
	var all []api.Pair
	for at := uint64(0); ; {
		l, next := c.Scan(at, 10)
		all = append(all, l...)
		if at = next; at == 0 {
			break
		}
	}
	if !slices.Equal(sorted(all), w.all()) {
		t.Fatalf("P13.3: a copy: a chain tells %s of %d", brief(all), len(w.pairs))
	}
}

// P13.2: a copy has the same pairs, Packed as it is, and the same limits and seed.
func TestCopy(t *testing.T) {
	for i, l := range someLimits() {
		for _, n := range []int{0, 1, 2, 3, 100} {
			m, w := both(seeds[i%len(seeds)], l)
			for i := range n {
				wantSet(t, m, w, sized(i, min(w.text, 3)), sized(i, min(w.text, 2)))
			}
			c := m.Copy()
			wantMap(t, c, w)
			wantMap(t, m, w)
			// What comes behind it goes by the limits that the hash was made with.
			wantSet(t, c, w, "", "")
			wantSet(t, c, w, "", sized(7, w.text))
			wantSet(t, c, w, sized(700, w.text), "")
			wantMap(t, c, w)
			wantSet(t, c, w, sized(7, w.text+1), "")
			wantMap(t, c, w)
		}
	}
}

// P13.2: a copy of the greatest packed one, and of one field more, with the Sets that upgrade behind them.
func TestCopyAtLimits(t *testing.T) {
	m, w := filled(t, 1, limits(512, 60), names(512))
	c := m.Copy()
	if c.Set("one more", ""); c.Packed() || !m.Packed() {
		t.Errorf("P13.2: Packed %t of 513, %t of 512", c.Packed(), m.Packed())
	}
	wantMap(t, m, w)
	d := m.Copy()
	if d.Set("f0", strings.Repeat("x", 61)); d.Packed() || !m.Packed() {
		t.Errorf("P13.2: Packed %t of 61 bytes, %t of 60", d.Packed(), m.Packed())
	}
	wantMap(t, m, w)
	wantSet(t, m, w, "one more", "")
	e := m.Copy()
	wantCopy(t, e, w)
	wantMap(t, e, w)
	e.Delete("one more")
	if e.Packed() || e.Copy().Packed() {
		t.Error("P13.2: a copy is packed again")
	}
}

// P13.2: a copy of one that was upgraded and emptied is not packed, and has nothing.
func TestCopyOfEmptied(t *testing.T) {
	for _, n := range []int{1, 200, 1500} {
		m, w := filled(t, 1, api.Limits{}, names(n))
		for _, f := range names(n) {
			wantDelete(t, m, w, f)
		}
		c := m.Copy()
		wantCopy(t, c, w)
		if c.Packed() || c.Len() != 0 {
			t.Errorf("P13.2: a copy of nothing: Packed %t, Len %d", c.Packed(), c.Len())
		}
		c.Set("a", "")
		wantMap(t, m, w)
	}
}

// changes are calls that each change a hash of f0, f1 and so on.
func changes() map[string]func(m *hmap.Map) {
	return map[string]func(m *hmap.Map){
		"new":     func(m *hmap.Map) { m.Set("new", "v") },
		"same":    func(m *hmap.Map) { m.Set("f0", "z") },
		"shorter": func(m *hmap.Map) { m.Set("f0", "") },
		"longer":  func(m *hmap.Map) { m.Set("f0", strings.Repeat("v", 50)) },
		"long":    func(m *hmap.Map) { m.Set("f0", longest) },
		"field":   func(m *hmap.Map) { m.Set(longest, "") },
		"Delete":  func(m *hmap.Map) { m.Delete("f0") },
		"many": func(m *hmap.Map) {
			for i, f := range names(700) {
				m.Set("m"+f, strconv.Itoa(i))
			}
		},
		"all": func(m *hmap.Map) {
			for _, p := range m.All() {
				m.Delete(p.Field)
			}
		},
		"each": func(m *hmap.Map) {
			for _, p := range m.All() {
				m.Set(p.Field, "e")
			}
		},
	}
}

// P13.2: what is done to a copy is not seen in the hash, and what is done to the hash is not seen in its copy; packed and not.
func TestCopyByItself(t *testing.T) {
	for _, l := range []api.Limits{{}, limits(5, 9), limits(200, 60)} {
		for _, n := range []int{1, 5, 150, 200, 300} {
			for name, change := range changes() {
				m, w := filled(t, 1, l, names(n))
				c := m.Copy()
				was := told(c, names(n))
				change(c)
				changed := told(c, names(n))
				if changed == was {
					t.Fatalf("%s changed nothing", name)
				}
				wantMap(t, m, w)
				d := m.Copy()
				change(m)
				wantMap(t, d, w)
				wantTold(t, d, names(n), was, "P13.2: a copy of what is changed by "+name)
				wantTold(t, c, names(n), changed, "P13.2: a changed copy")
				if m.Packed() != c.Packed() || !slices.Equal(sorted(m.All()), sorted(c.All())) {
					t.Errorf("P13.2: %s makes another one of a copy", name)
				}
			}
		}
	}
}

// P13.2: a copy stays when its hash is emptied, and a copy's copy when the copy is.
func TestCopyStays(t *testing.T) {
	for _, l := range []api.Limits{{}, limits(200, 60)} {
		m, w := filled(t, 1, l, names(150))
		c := m.Copy()
		d := c.Copy()
		for _, f := range names(150) {
			m.Delete(f)
			c.Delete(f)
		}
		wantMap(t, d, w)
		if m.Len() != 0 || c.Len() != 0 || len(m.All()) != 0 || len(c.All()) != 0 {
			t.Errorf("P13.1: emptied: %d, %d", m.Len(), c.Len())
		}
	}
}

// R2: what All and Scan told may be turned, spare room and all, and no later call turns it.
func TestAnswersByThemselves(t *testing.T) {
	for _, l := range []api.Limits{{}, limits(512, 60)} {
		for _, n := range []int{1, 30, 300, 700} {
			m, w := filled(t, 1, l, names(n))
			ask := func() [][]api.Pair {
				some, _ := m.Scan(0, 3)
				return [][]api.Pair{m.All(), some}
			}
			turned, kept := ask(), ask()
			var want [][]api.Pair
			for _, l := range kept {
				want = append(want, slices.Clone(l))
			}
			for _, l := range turned {
				for i := range l[:cap(l)] {
					l[:cap(l)][i] = api.Pair{Field: "turned", Value: "turned"}
				}
			}
			wantMap(t, m, w)
			for _, f := range names(n) {
				wantSet(t, m, w, f, "other")
				wantSet(t, m, w, "and "+f, "more")
			}
			for _, f := range names(n) {
				wantDelete(t, m, w, f)
			}
			for i := range kept {
				if !slices.Equal(kept[i], want[i]) {
					t.Fatal("R2: an answer is turned by a later call, or shares memory with another one")
				}
			}
		}
	}
}

// R4: the same calls answer the same, every order included; calls that only ask change nothing.
func TestAgain(t *testing.T) {
	values := []string{"", "a", "12", strings.Repeat("v", 9), strings.Repeat("v", 60)}
	for seed := range int64(12) {
		one, other := rand.New(rand.NewSource(seed)), rand.New(rand.NewSource(seed))
		l := limits(int(seed)*20, 60)
		m, w := both(uint64(seed), l)
		n, v := both(uint64(seed), l)
		fields := names(250)
		for range 30 {
			for range 20 {
				play(t, one, m, w, fields, values, 8)
				play(t, other, n, v, fields, values, 8)
			}
			n.All()
			n.Scan(5, 5)
			n.Copy().Set("c", longest)
			n.Set(tooLong, "")
			wantTold(t, n, nil, told(m, nil), "R4: the same calls")
		}
	}
}
