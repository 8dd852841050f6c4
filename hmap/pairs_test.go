package hmap_test

import (
	"slices"
	"strconv"
	"strings"
	"testing"

	"tallboy/api"
	"tallboy/hmap"
)

// ways are limits by which a hash of few and short fields is packed, and by which it is not.
var ways = map[string]api.Limits{"packed": {Entries: 512, Text: 60}, "not packed": {}}

// The chapter's run: Set(f, 1), Set(f, 2): true, false.
func TestRun(t *testing.T) {
	for name, l := range ways {
		m := hmap.New(1, l)
		one, why := m.Set("f", "1")
		two, also := m.Set("f", "2")
		if !one || two || why != api.OK || also != api.OK {
			t.Errorf("P13.1: %s: %t, %d, %t, %d", name, one, why, two, also)
		}
		if v, ok := m.Get("f"); v != "2" || !ok || m.Len() != 1 {
			t.Errorf("P13.1: %s: Get(f) of %d: %q, %t", name, m.Len(), v, ok)
		}
		if l := m.All(); !slices.Equal(l, []api.Pair{{Field: "f", Value: "2"}}) {
			t.Errorf("P13.1: %s: All: %q", name, l)
		}
	}
}

// The chapter's examples: Get of none; Scan(7, 1) of a packed one.
func TestExamples(t *testing.T) {
	m := hmap.New(1, limits(9, 9))
	if v, ok := m.Get("f"); v != "" || ok {
		t.Errorf("P13.1: Get of none: %q, %t", v, ok)
	}
	if l, c := m.Scan(7, 1); len(l) != 0 || c != 0 {
		t.Errorf("P13.2: Scan(7, 1) of nothing: %q, %d", l, c)
	}
	m.Set("a", "1")
	m.Set("b", "2")
	if l, c := m.Scan(7, 1); c != 0 || !slices.Equal(sorted(l), []api.Pair{{Field: "a", Value: "1"}, {Field: "b", Value: "2"}}) {
		t.Errorf("P13.2: Scan(7, 1): %q, %d", l, c)
	}
}

// P13.1: a new hash has nothing.
func TestNothing(t *testing.T) {
	for _, seed := range seeds {
		for _, l := range someLimits() {
			m, w := both(seed, l)
			wantMap(t, m, w)
			for _, f := range someTexts() {
				wantGet(t, m, w, f)
				wantDelete(t, m, w, f)
			}
			wantMap(t, m, w)
			if len(m.All()) != 0 || !m.Packed() {
				t.Errorf("P13.1: All of nothing: %q", m.All())
			}
		}
	}
}

// P13.1: fields and values of any bytes, each with each.
func TestTexts(t *testing.T) {
	for name, l := range ways {
		for _, f := range someTexts() {
			for _, v := range someTexts() {
				m, w := both(1, l)
				wantSet(t, m, w, f, v)
				wantPairs(t, m, w)
				wantSet(t, m, w, f, v)
				wantPairs(t, m, w)
				wantDelete(t, m, w, f)
				wantDelete(t, m, w, f)
				wantPairs(t, m, w)
			}
		}
		m, w := filled(t, 1, l, someTexts())
		if m.Len() != len(someTexts()) {
			t.Errorf("P13.1: %s: %d fields", name, m.Len())
		}
		for _, f := range someTexts() {
			wantDelete(t, m, w, f)
			wantGet(t, m, w, f)
			wantDelete(t, m, w, f)
		}
		wantMap(t, m, w)
	}
}

// P13.1: ErrLong above MaxEntry bytes, of the field, of the value and of both; behind it everything is told as before, R3.
func TestTooLong(t *testing.T) {
	much := strings.Repeat("y", 1<<20)
	for _, l := range []api.Limits{{}, limits(3, 9), limits(4, 9), limits(512, 60)} {
		for n := range 6 {
			fields := names(n)
			m, w := filled(t, 1, l, fields)
			was, packed := told(m, fields), m.Packed()
			for _, x := range [][2]string{{tooLong, ""}, {"", tooLong}, {tooLong, tooLong}, {"f0", tooLong}, {"new", tooLong}, {tooLong, "0"}, {longest, tooLong}, {tooLong, longest}, {much, ""}, {"", much}} {
				if fresh, why := m.Set(x[0], x[1]); fresh || why != api.ErrLong {
					t.Errorf("P13.1: Set of %d and %d bytes: %t, %d", len(x[0]), len(x[1]), fresh, why)
				}
				wantTold(t, m, append(fields, "", "new", tooLong, longest), was+strings.Repeat("\"\" false\n", 4), "R3: a Set that was refused")
			}
			wantMap(t, m, w)
			if m.Packed() != packed {
				t.Error("R3: a Set that was refused unpacks")
			}
			if _, ok := m.Get(tooLong); ok || m.Delete(tooLong) {
				t.Error("P13.1: a field that no Set takes is there")
			}
			wantSet(t, m, w, longest, longest)
			wantSet(t, m, w, "f0", longest)
			wantMap(t, m, w)
		}
	}
}

// P13.1: a Set of a field that is there, with shorter and longer values, changes that one alone.
func TestSetAgain(t *testing.T) {
	for name, l := range ways {
		for _, at := range []int{0, 1, 3, 4} {
			m, w := filled(t, 1, l, names(5))
			f := "f" + strconv.Itoa(at)
			for _, n := range []int{1, 0, 10, 9, 60, 5, 60, 0, 59, 60} {
				wantSet(t, m, w, f, strings.Repeat("v", n))
				wantMap(t, m, w)
			}
			for _, v := range []string{"5", "300", "-1", "0", "x"} {
				wantSet(t, m, w, f, v)
				wantMap(t, m, w)
			}
			if m.Packed() != (name == "packed") || m.Len() != 5 {
				t.Errorf("P13.1: %s: Packed %t, %d fields", name, m.Packed(), m.Len())
			}
			for _, n := range []int{61, 4096, 4095, 0, 4096} {
				wantSet(t, m, w, f, strings.Repeat("v", n))
				wantMap(t, m, w)
			}
		}
	}
}

// P13.1: a field that has the same bytes as a value, its own and another one's.
func TestFieldsAsValues(t *testing.T) {
	for name, l := range ways {
		m, w := both(1, l)
		wantSet(t, m, w, "x", "y")
		wantGet(t, m, w, "y")
		wantDelete(t, m, w, "y")
		wantMap(t, m, w)
		wantSet(t, m, w, "y", "x")
		wantMap(t, m, w)
		wantSet(t, m, w, "z", "z")
		wantSet(t, m, w, "1", "z")
		wantSet(t, m, w, "2", "1")
		wantSet(t, m, w, "", "2")
		wantMap(t, m, w)
		wantDelete(t, m, w, "x")
		wantMap(t, m, w)
		wantDelete(t, m, w, "x")
		wantDelete(t, m, w, "z")
		wantDelete(t, m, w, "z")
		wantMap(t, m, w)
		if m.Len() != 4 {
			t.Errorf("P13.1: %s: %d fields", name, m.Len())
		}
	}
}

// P13.1: all fields are taken away, from each end and from the midst, and set again.
func TestEmptied(t *testing.T) {
	for name, l := range ways {
		for _, turn := range []func([]string){func([]string) {}, slices.Reverse[[]string], func(l []string) { slices.SortFunc(l, func(a, b string) int { return strings.Compare(b[1:], a[1:]) }) }} {
			m, w := filled(t, 1, l, names(30))
			order := names(30)
			turn(order)
			for _, f := range order {
				wantDelete(t, m, w, f)
				wantDelete(t, m, w, f)
				wantPairs(t, m, w)
			}
			wantMap(t, m, w)
			if m.Len() != 0 || len(m.All()) != 0 || m.Packed() != (name == "packed") {
				t.Errorf("P13.1: %s: emptied: Len %d, All %q, Packed %t", name, m.Len(), m.All(), m.Packed())
			}
			for _, f := range order {
				wantSet(t, m, w, f, "again")
			}
			wantMap(t, m, w)
		}
	}
}

// P13.1: many fields, more than one table has.
func TestMany(t *testing.T) {
	for _, seed := range seeds {
		m, w := filled(t, seed, limits(512, 60), names(3000))
		for i, f := range names(3000) {
			if i%3 > 0 {
				wantDelete(t, m, w, f)
			} else {
				wantSet(t, m, w, f, "x"+f)
			}
		}
		wantMap(t, m, w)
	}
}

// P13.1: fields of one hash, more than one table has.
func TestOneHash(t *testing.T) {
	var zeros []string
	for n := range 300 {
		zeros = append(zeros, strings.Repeat("\x00", n))
	}
	for _, l := range []api.Limits{{}, limits(512, 60)} {
		m, w := filled(t, begin, l, zeros)
		for _, f := range zeros[50:200] {
			wantDelete(t, m, w, f)
		}
		wantPairs(t, m, w)
	}
}
