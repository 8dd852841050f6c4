package hashes_test

import (
	"fmt"
	"slices"
	"testing"

	"tallboy/api"
	"tallboy/hashes"
	"tallboy/reply"
)

// TestRepliesStay asks that what was told stays as it was, whatever becomes of the keys.
func TestRepliesStay(t *testing.T) {
	for _, l := range []api.Limits{limits, {}, {Entries: 512, Text: 60}} {
		for _, args := range [][]string{
			{"hget", "a", "f"}, {"hmget", "a", "f", "no", "g"}, {"hkeys", "a"}, {"hvals", "a"}, {"hgetall", "a"}, {"hscan", "a", "0"}, {"hscan", "a", "0", "MATCH", "f"},
		} {
			p := within(t, l)
			p.number(3, "hset", "a", "f", "old", "g", "7", "h", "")
			r, err := p.do(args...)
			if err != nil {
				t.Fatal(err)
			}
			was := fmt.Sprint(r)
			for _, next := range [][]string{
				{"hset", "a", "f", "new", "h", "x"}, {"hset", "a", "f", "olD"}, {"hincrby", "a", "g", "5"}, {"hsetnx", "a", "i", "1"}, {"hset", "a", "j", longest}, {"hdel", "a", "f", "g"}, {"hdel", "a", "h", "i", "j"}, {"hset", "a", "f", "again"},
			} {
				if _, err := p.do(next...); err != nil {
					t.Fatal(err)
				}
				if fmt.Sprint(r) != was {
					t.Errorf("R2: what %s told is %v behind %s, was %s", show(args), r, show(next), was)
				}
			}
		}
	}
}

// spoil writes over a reply's lists, and over the room behind them.
func spoil(r api.Reply) {
	for i, part := range r.L {
		spoil(part)
		r.L[i] = reply.Int(9)
	}
	rest := r.L[len(r.L):cap(r.L)]
	for i := range rest {
		rest[i] = reply.Int(9)
	}
}

// TestRepliesAreNew asks that what is done to a reply is not seen elsewhere.
func TestRepliesAreNew(t *testing.T) {
	for _, l := range []api.Limits{limits, {}, {Entries: 512, Text: 60}} {
		p := within(t, l)
		p.number(4, "hset", "a", "f", "1", "g", "2", "h", "3", "i", "1")
		for _, name := range []string{"hmget", "hkeys", "hvals", "hgetall", "hscan"} {
			first, _ := p.do(of(name, "a")...)
			second, _ := p.do(of(name, "a")...)
			was := fmt.Sprint(second)
			spoil(first)
			third, _ := p.do(of(name, "a")...)
			if fmt.Sprint(second) != was || fmt.Sprint(third) != was {
				t.Errorf("R2: %s: %s, then %v, %v", name, was, second, third)
			}
		}
		p.tells(mapOf("f", "1", "g", "2", "h", "3", "i", "1"), "hgetall", "a")
	}
}

// TestPartsOfAReplyShareNothing writes over one list of a reply.
func TestPartsOfAReplyShareNothing(t *testing.T) {
	p := fresh(t)
	p.number(2, "hset", "a", "f", "1", "g", "2")
	r, _ := p.do("hscan", "a", "0")
	_ = append(r.L[1].L, reply.Int(9))
	for i := range r.L[1].L {
		r.L[1].L[i] = reply.Int(9)
	}
	if r.L[0].S != "0" || len(r.L) != 2 {
		t.Errorf("R2: %v", r)
	}
}

// TestWordsMayBeUsedAgain writes over the words behind each call.
func TestWordsMayBeUsedAgain(t *testing.T) {
	for _, l := range []api.Limits{limits, {Entries: 512, Text: 60}} {
		p := within(t, l)
		args := make([]string, 6, 9)
		var want []string
		for i := range 30 {
			pairs := []string{fmt.Sprint("f", i), fmt.Sprint("v", i), fmt.Sprint("g", i), ""}
			want = append(want, pairs...)
			copy(args, append([]string{"hset", "a"}, pairs...))
			p.number(2, args...)
			copy(args, []string{"hsetnx", fmt.Sprint("b", i), "f", "v", "spoilt", "spoilt"})
			p.number(1, args[:4]...)
			copy(args, slices.Repeat([]string{"spoilt"}, 6))
		}
		p.has("a", want...)
		for i := range 30 {
			p.has(fmt.Sprint("b", i), "f", "v")
		}
	}
}

// TestTheValueStays holds that who has a key's value of the space sees what is done, up to the last field.
func TestTheValueStays(t *testing.T) {
	p := fresh(t)
	p.hash("a", "f", "1")
	v := p.s.Get("a", p.now)
	for _, args := range [][]string{{"hset", "a", "g", "2", "h", "3", "i", "4"}, {"hincrby", "a", "f", "9"}, {"hsetnx", "a", "j", ""}, {"hdel", "a", "g", "h", "i", "j"}} {
		if _, err := p.do(args...); err != nil || p.s.Get("a", p.now) != v {
			t.Errorf("P22.1: %s: %v, another value", show(args), err)
		}
	}
	if s, _ := v.Hash.Get("f"); s != "10" || v.Len() != 1 {
		t.Errorf("P22.1: %s", inside(v))
	}
	p.number(1, "hdel", "a", "f")
	p.number(1, "hset", "a", "f", "new")
	if w := p.s.Get("a", p.now); w == v || v.Len() != 0 {
		t.Errorf("P22.1: a key that comes to be there again has the value that it had: %s", inside(v))
	}
}

// TestOneHashUnderTwoKeys is none: each key that comes to be there has a hash by itself.
func TestOneHashUnderTwoKeys(t *testing.T) {
	p := fresh(t)
	for _, key := range []string{"a", "b"} {
		if _, err := hashes.Do(p.s, p.now, 0, []string{"hset", key, "f", key}); err != nil {
			t.Fatal(err)
		}
	}
	p.number(1, "hset", "a", "g", "1")
	p.has("a", "f", "a", "g", "1")
	p.has("b", "f", "b")
}
