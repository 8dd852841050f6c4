package hmap_test

import (
	"fmt"
	"math"
	"strings"
	"testing"

	"tallboy/api"
	"tallboy/hmap"
)

// sized is the n-th of many fields that have just this many bytes.
func sized(n, bytes int) string {
	s := fmt.Sprintf("%0*x", bytes, n)
	return s[len(s)-bytes:]
}

// P13.2: limits, written out: how many fields of how many bytes a hash has packed.
func TestLimits(t *testing.T) {
	for _, c := range []struct{ entries, text, most, bytes int }{
		{math.MinInt, 60, 0, 60},
		{-1 << 32, 60, 0, 60},
		{-1, 60, 0, 60},
		{0, 60, 0, 60},
		{1, 60, 1, 60},
		{2, 5, 2, 5},
		{100, 59, 100, 59},
		{511, 60, 511, 60},
		{512, 60, 512, 60},
		{513, 60, 512, 60},
		{600, 61, 512, 60},
		{1 << 32, 1 << 32, 512, 60},
		{1<<32 + 1, 1<<32 + 1, 512, 60},
		{math.MaxInt, math.MaxInt, 512, 60},
	} {
		m := hmap.New(1, limits(c.entries, c.text))
		for n := range c.most {
			if !m.Packed() {
				t.Fatalf("P13.2: limits %d, %d: not packed of %d fields", c.entries, c.text, n)
			}
			m.Set(sized(n, c.bytes), strings.Repeat("v", c.bytes))
		}
		if !m.Packed() || m.Len() != c.most {
			t.Fatalf("P13.2: limits %d, %d: %d fields, Packed %t", c.entries, c.text, m.Len(), m.Packed())
		}
		for n := range c.most {
			m.Set(sized(n, c.bytes), strings.Repeat("w", c.bytes))
		}
		if !m.Packed() {
			t.Fatalf("P13.2: limits %d, %d: not packed of %d fields that were set again", c.entries, c.text, m.Len())
		}
		if fresh, why := m.Set("z", ""); !fresh || why != api.OK || m.Packed() || m.Len() != c.most+1 {
			t.Errorf("P13.2: limits %d, %d: one field more: %t, %d, Packed %t", c.entries, c.text, fresh, why, m.Packed())
		}
		for n := range c.most {
			if v, ok := m.Get(sized(n, c.bytes)); !ok || v != strings.Repeat("w", c.bytes) {
				t.Errorf("P13.2: limits %d, %d: Get behind the upgrade: %q, %t", c.entries, c.text, v, ok)
			}
		}
	}
}

// P13.2: the bytes of a field and of a value, at Text and one above it; Text below 0 counts as 0, above 60 as 60.
func TestText(t *testing.T) {
	for _, c := range []struct{ text, bytes int }{
		{math.MinInt, 0}, {-1 << 32, 0}, {-1, 0}, {0, 0}, {1, 1}, {5, 5}, {9, 9}, {59, 59}, {60, 60}, {61, 60}, {64, 60}, {4096, 60}, {1 << 32, 60}, {1<<32 + 5, 60}, {math.MaxInt, 60},
	} {
		at, above := strings.Repeat("x", c.bytes), strings.Repeat("x", c.bytes+1)
		for _, x := range []struct {
			field, value string
			want         bool
		}{
			{"", "", true}, {at, "", true}, {"", at, true}, {at, at, true},
			{above, "", false}, {"", above, false}, {above, above, false}, {above, at, false}, {at, above, false},
			{longest, "", false}, {"", longest, false},
			{tooLong, "", true}, {"", tooLong, true}, {above, tooLong, true}, {tooLong, above, true},
		} {
			m := hmap.New(1, limits(3, c.text))
			m.Set(x.field, x.value)
			if m.Packed() != x.want {
				t.Errorf("P13.2: Text %d: Set of %d and %d bytes: Packed %t", c.text, len(x.field), len(x.value), m.Packed())
			}
			n := hmap.New(1, limits(3, c.text))
			n.Set("", "")
			n.Set(at, "")
			n.Set(x.field, x.value)
			if n.Packed() != x.want {
				t.Errorf("P13.2: Text %d: Set of %d and %d bytes beside others: Packed %t", c.text, len(x.field), len(x.value), n.Packed())
			}
		}
	}
}

// P13.2: Numbers have as many bytes as their text, however they lie in a pack.
func TestTextOfNumbers(t *testing.T) {
	for _, c := range []struct {
		text int
		s    string
		want bool
	}{{1, "5", true}, {1, "12", false}, {2, "12", true}, {2, "127", false}, {18, "9223372036854775807", false}, {19, "9223372036854775807", true}, {19, "-9223372036854775808", false}, {20, "-9223372036854775808", true}} {
		for _, x := range [][2]string{{c.s, ""}, {"", c.s}, {c.s, c.s}} {
			m := hmap.New(1, limits(3, c.text))
			m.Set(x[0], x[1])
			if m.Packed() != c.want {
				t.Errorf("P13.2: Text %d: Set(%q, %q): Packed %t", c.text, x[0], x[1], m.Packed())
			}
		}
	}
}

// P13.2: all limits, with fields that come and go below Entries, at it and above it.
func TestPackedEverywhere(t *testing.T) {
	for _, l := range someLimits() {
		m, w := both(1, l)
		most := w.entries
		for n := range most + 1 {
			f := sized(n, min(w.text, 4))
			wantSet(t, m, w, f, sized(n, min(w.text, 1)))
			if n > 1 && n+2 >= most {
				wantDelete(t, m, w, f)
				wantSet(t, m, w, f, "")
				wantSet(t, m, w, f, sized(n, w.text))
			}
		}
		wantMap(t, m, w)
		wantSet(t, m, w, "one more", "")
		wantMap(t, m, w)
	}
}

// P13.2: what was upgraded stays so: emptied, and filled again within its limits.
func TestForEver(t *testing.T) {
	for name, upgrade := range map[string]func(m *hmap.Map){
		"Entries": func(m *hmap.Map) { m.Set("3", "") },
		"field":   func(m *hmap.Map) { m.Set("123456", "") },
		"value":   func(m *hmap.Map) { m.Set("1", "123456") },
	} {
		m := hmap.New(1, limits(2, 5))
		m.Set("1", "")
		m.Set("2", "")
		if upgrade(m); m.Packed() {
			t.Fatalf("P13.2: %s: packed", name)
		}
		m.Set("1", "")
		for _, f := range []string{"123456", "3", "2", "1"} {
			if m.Delete(f); m.Packed() {
				t.Errorf("P13.2: %s: packed again of %d", name, m.Len())
			}
		}
		if m.Len() != 0 || len(m.All()) != 0 || m.Delete("1") {
			t.Errorf("P13.2: %s: emptied: %d, %q", name, m.Len(), m.All())
		}
		if l, c := m.Scan(0, 1); len(l) != 0 || c != 0 || m.Packed() || m.Copy().Packed() {
			t.Errorf("P13.2: %s: emptied: Scan: %q, %d, Packed %t, %t", name, l, c, m.Packed(), m.Copy().Packed())
		}
		if fresh, _ := m.Set("1", "v"); !fresh || m.Packed() {
			t.Errorf("P13.2: %s: filled again: %t, Packed %t", name, fresh, m.Packed())
		}
	}
}

// P13.2: a hash that was not above its limits at any time stays packed, whatever came and went.
func TestStaysPacked(t *testing.T) {
	m, w := both(1, limits(3, 5))
	for n := range 500 {
		wantSet(t, m, w, fmt.Sprint(n), "v")
		if n > 1 {
			wantDelete(t, m, w, fmt.Sprint(n-2))
		}
		m.Set("123456", tooLong)
		m.Delete("123456")
		m.Get("123456")
	}
	wantMap(t, m, w)
	if !m.Packed() {
		t.Error("P13.2: not packed")
	}
}

// P13.2: limits that were handed in may be changed later.
func TestLimitsNotKept(t *testing.T) {
	l := limits(2, 5)
	m := hmap.New(1, l)
	l.Entries, l.Text = 0, 0
	m.Set("a", "b")
	m.Set("b", "c")
	if !m.Packed() {
		t.Errorf("R2: limits %v are asked later", l)
	}
}
