package hashes_test

import (
	"slices"
	"strconv"
	"testing"

	"tallboy/api"
	"tallboy/hashes"
)

func TestTheRun(t *testing.T) {
	p := fresh(t)
	p.number(1, "hset", "a", "f", "1")
	p.number(3, "hincrby", "a", "f", "2")
}

func TestTheExamples(t *testing.T) {
	p := fresh(t)
	p.hash("a", "f", "1")
	p.number(1, "hdel", "a", "f")
	p.hasNot("a")
	p.refused(api.ErrCursor, "hscan", "a", "x")
}

// TestHset has one field twice, new fields and old ones mixed, and values that fields have already.
func TestHset(t *testing.T) {
	for way, made := range ways {
		for _, x := range []struct {
			words []string
			added int64
			has   []string
			same  bool
		}{
			{[]string{"f", "1"}, 0, []string{"f", "1", "g", ""}, true},
			{[]string{"g", ""}, 0, []string{"f", "1", "g", ""}, true},
			{[]string{"f", "1", "g", ""}, 0, []string{"f", "1", "g", ""}, true},
			{[]string{"f", "2"}, 0, []string{"f", "2", "g", ""}, false},
			{[]string{"f", ""}, 0, []string{"f", "", "g", ""}, false},
			{[]string{"f", "01"}, 0, []string{"f", "01", "g", ""}, false},
			{[]string{"f", "2", "f", "3"}, 0, []string{"f", "3", "g", ""}, false},
			{[]string{"f", "2", "f", "1"}, 0, []string{"f", "1", "g", ""}, true},
			{[]string{"f", "1", "f", "2"}, 0, []string{"f", "2", "g", ""}, false},
			{[]string{"f", "2", "g", "x", "f", "1", "g", ""}, 0, []string{"f", "1", "g", ""}, true},
			{[]string{"f", "2", "g", "x", "f", "1"}, 0, []string{"f", "1", "g", "x"}, false},
			{[]string{"h", ""}, 1, []string{"f", "1", "g", "", "h", ""}, false},
			{[]string{"h", "1", "h", "2"}, 1, []string{"f", "1", "g", "", "h", "2"}, false},
			{[]string{"f", "1", "h", "1", "g", "", "h", "1"}, 1, []string{"f", "1", "g", "", "h", "1"}, false},
			{[]string{"", "x", "F", "y", "f", "z"}, 2, []string{"f", "z", "g", "", "", "x", "F", "y"}, false},
			{[]string{"1", "f", "", "g"}, 2, []string{"f", "1", "g", "", "1", "f", "", "g"}, false},
		} {
			p := fresh(t)
			p.put("a", made("f", "1", "g", ""))
			p.s.Expire("a", 9000, p.now)
			v := p.s.Get("a", p.now)
			before := p.s.Version("a", p.now)
			p.number(x.added, append([]string{"hset", "a"}, x.words...)...)
			if p.s.Version("a", p.now) == before != x.same || p.s.Get("a", p.now) != v {
				t.Errorf("P22.1: hset of %q to a hash %s: Touched %t", x.words, way, x.same)
			}
			p.has("a", x.has...)
			p.until("a", 9000)
		}
	}
}

// TestHsetOfManyPairs has as many words as a request may have.
func TestHsetOfManyPairs(t *testing.T) {
	l := many((api.MaxArgs - 2) / 2)
	for _, way := range []api.Limits{limits, {Entries: 512, Text: 60}} {
		p := within(t, way)
		args := append([]string{"hset", "a"}, l...)
		p.number(int64(len(l)/2), args...)
		p.has("a", l...)
		p.changes(nil, args...)
		p.number(0, args...)
		args[len(args)-1] = "another"
		p.changes([]string{"a"}, args...)
		p.refused(api.ErrArity, append(args, "f", "v")...)
	}
}

// TestAValueThatWasLongOnTheWay is a hash of the Same pairs, so it is not Touched; its texts were set one behind the other all the same.
func TestAValueThatWasLongOnTheWay(t *testing.T) {
	p := fresh(t)
	p.timed("a", 9000, "f", "1")
	p.changes(nil, "hset", "a", "f", longest, "f", "1")
	p.has("a", "f", "1")
	p.until("a", 9000)
	p.packed("a", false)
}

func TestHsetnx(t *testing.T) {
	for _, made := range ways {
		p := fresh(t)
		p.put("a", made("f", "1", "e", ""))
		p.s.Expire("a", 9000, p.now)
		for _, f := range []string{"f", "e"} {
			for _, s := range []string{"1", "", "other", longest} {
				p.changes(nil, "hsetnx", "a", f, s)
				p.number(0, "HSETNX", "a", f, s)
			}
		}
		p.has("a", "f", "1", "e", "")
		p.changes([]string{"a"}, "hsetnx", "a", "g", "")
		p.number(1, "hsetnx", "a", "", "x")
		p.number(0, "hsetnx", "a", "", "y")
		p.number(1, "hsetnx", "a", "1", "f")
		p.has("a", "f", "1", "e", "", "g", "", "", "x", "1", "f")
		p.until("a", 9000)
		p.changes([]string{"b"}, "hsetnx", "b", "", "")
		p.has("b", "", "")
		p.endless("b")
	}
}

// TestHdel has one field twice, some that are not there, and the last one.
func TestHdel(t *testing.T) {
	for way, made := range ways {
		for _, x := range []struct {
			words []string
			gone  int64
			has   []string
		}{
			{[]string{"none"}, 0, []string{"f", "1", "g", "", "h", "f"}},
			{[]string{"1", "F", "none", "none"}, 0, []string{"f", "1", "g", "", "h", "f"}},
			{[]string{"f"}, 1, []string{"g", "", "h", "f"}},
			{[]string{"f", "f"}, 1, []string{"g", "", "h", "f"}},
			{[]string{"none", "g", "none", "f", "g"}, 2, []string{"h", "f"}},
			{[]string{"", "h"}, 1, []string{"f", "1", "g", ""}},
		} {
			p := fresh(t)
			p.put("a", made("f", "1", "g", "", "h", "f"))
			p.s.Expire("a", 9000, p.now)
			before := p.s.Version("a", p.now)
			p.number(x.gone, append([]string{"hdel", "a"}, x.words...)...)
			if p.s.Version("a", p.now) > before != (x.gone > 0) {
				t.Errorf("P22.1: hdel of %q of a hash %s: the Version was %d, is %d", x.words, way, before, p.s.Version("a", p.now))
			}
			p.has("a", x.has...)
			p.until("a", 9000)
		}
	}
}

// TestHdelOfTheLast takes the key away, and its expiry with it.
func TestHdelOfTheLast(t *testing.T) {
	for _, made := range ways {
		for _, words := range [][]string{{"f", "g"}, {"g", "f"}, {"f", "f", "none", "g", "g"}, {"f"}} {
			p := fresh(t)
			p.put("a", made("f", "1", "g", ""))
			p.s.Expire("a", 9000, p.now)
			p.hash("b", "f", "1")
			args := append([]string{"hdel", "a"}, words...)
			if len(words) == 1 {
				p.number(1, "hdel", "a", "g")
				p.until("a", 9000)
			}
			p.changes([]string{"a"}, args...)
			p.hasNot("a")
			if p.s.Len(p.now) != 1 || p.s.Held() != 1 {
				t.Errorf("P22.1: %d keys", p.s.Len(p.now))
			}
			p.changes(nil, args...)
			p.number(0, args...)
			p.number(0, "hlen", "a")
			p.changes([]string{"a"}, "hset", "a", "f", "1")
			p.endless("a")
			p.packed("a", true)
			p.now = 9000
			p.has("a", "f", "1")
		}
	}
	p := fresh(t)
	p.changes(nil, "hdel", "none", "f", "g")
	p.hasNot("none")
}

// TestHdelOfMany takes many fields away that were set one by one.
func TestHdelOfMany(t *testing.T) {
	p := fresh(t)
	l := many(1000)
	for pair := range slices.Chunk(l, 2) {
		if r, err := hashes.Do(p.s, p.now, 0, []string{"hset", "a", pair[0], pair[1]}); err != nil || r.N != 1 {
			t.Fatalf("P22.1: hset: %v, %v", r, err)
		}
	}
	p.has("a", l...)
	for i := 0; i < 1000; i += 100 {
		args := []string{"hdel", "a", "none"}
		for k := range 100 {
			args = append(args, l[2*(i+k)], "no"+strconv.Itoa(k))
		}
		p.number(100, args...)
	}
	p.hasNot("a")
}
