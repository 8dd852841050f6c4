package strs_test

import (
	"fmt"
	"slices"
	"testing"

	"tallboy/api"
	"tallboy/reply"
	"tallboy/value"
)

func TestMget(t *testing.T) {
	p := fresh(t)
	p.collect()
	p.text("a", "1")
	p.text("b", "")
	p.timed("c", "3", 9000)
	p.tells(texts("1"), "mget", "a")
	p.tells(texts(""), "mget", "b")
	p.tells(nulls(1), "mget", "nosuch")
	p.tells(texts("1", "1", "1"), "mget", "a", "a", "a")
	p.tells(texts("1", "none", "", "none", "3"), "mget", "a", "nosuch", "b", "hash", "c")
	p.tells(nulls(4), "MGET", "hash", "set", "list", "nosuch")
	p.tells(texts("none", "3", "none", "1"), "MGet", "list", "c", "", "a")
	for key := range collections {
		p.until(key, 1500)
	}
}

func TestMgetOfManyKeys(t *testing.T) {
	p := fresh(t)
	args, want := []string{"mget"}, []string{}
	for i := range api.MaxArgs - 1 {
		key := fmt.Sprint("k", i%100)
		args = append(args, key)
		want = append(want, "none")
		if i%100 < 50 {
			want[i] = fmt.Sprint("v", i%100)
			p.text(key, want[i])
		}
	}
	p.tells(texts(want...), args...)
	p.refused(api.ErrArity, append(args, "one more")...)
}

func TestMset(t *testing.T) {
	p := fresh(t)
	p.collect()
	p.timed("timed", "old", 9000)
	p.timed("same", "old", 9000)
	p.text("other", "o")
	p.changes([]string{"a", "hash", "list", "same", "timed"}, "MSET", "a", "1", "hash", "2", "timed", "3", "list", "", "same", "old")
	for key, want := range map[string]string{"a": "1", "hash": "2", "timed": "3", "list": "", "same": "old", "other": "o"} {
		p.has(key, want)
		p.endless(key)
	}
	p.until("set", 1500)
	p.ok("mset", "b", "b")
	p.tells(texts("1", "2", "3", "", "b"), "mget", "a", "hash", "timed", "list", "b")
}

// TestMsetOfOneKeyTwice has the last text stay.
func TestMsetOfOneKeyTwice(t *testing.T) {
	p := fresh(t)
	p.ok("mset", "a", "1", "a", "2")
	p.has("a", "2")
	p.ok("mset", "a", "3", "b", "4", "a", "5", "b", "6", "a", "7")
	p.has("a", "7")
	p.has("b", "6")
	p.ok("mset", "a", "b", "b", "a")
	p.has("a", "b")
	p.has("b", "a")
}

func TestMsetOfManyKeys(t *testing.T) {
	p := fresh(t)
	args := []string{"mset"}
	for i := range (api.MaxArgs - 1) / 2 {
		args = append(args, fmt.Sprint("k", i), fmt.Sprint("v", i))
	}
	p.ok(args...)
	for i := 1; i < len(args); i += 2 {
		p.has(args[i], args[i+1])
	}
	if p.s.Len(p.now) != (api.MaxArgs-1)/2 {
		t.Errorf("P21.1: mset: %d keys", p.s.Len(p.now))
	}
	p.refused(api.ErrArity, append(args, "k")...)
	p.refused(api.ErrArity, append(args, "k", "v")...)
}

// TestMsetWithoutAPartner changes nothing, not even the keys that have theirs.
func TestMsetWithoutAPartner(t *testing.T) {
	p := fresh(t)
	p.timed("a", "old", 9000)
	p.refused(api.ErrArity, "mset", "a", "1", "b")
	p.refused(api.ErrArity, "mset", "a")
	p.refused(api.ErrLong, "mset", "a", "1", "b", longest[:api.MaxEntry+1])
	p.has("a", "old")
	p.until("a", 9000)
	p.hasNot("b")
}

// TestSetnx has keys of each kind.
func TestSetnx(t *testing.T) {
	p := fresh(t)
	p.collect()
	p.timed("timed", "old", 9000)
	p.text("empty", "")
	for _, key := range []string{"timed", "empty", "hash", "set", "list"} {
		p.changes(nil, "setnx", key, "v")
		p.number(0, "SETNX", key, "v")
	}
	p.has("timed", "old")
	p.until("timed", 9000)
	p.changes([]string{"a"}, "setnx", "a", "v")
	p.has("a", "v")
	p.endless("a")
	p.number(0, "setnx", "a", "w")
	p.number(1, "setnx", "b", "")
	p.has("b", "")
}

// TestGetsetAndGetdel tell what was there, and none where there was none.
func TestGetsetAndGetdel(t *testing.T) {
	p := fresh(t)
	p.null("getset", "a", "1")
	p.bulk("1", "getset", "a", "")
	p.bulk("", "getset", "a", "3")
	p.bulk("3", "GETDEL", "a")
	p.null("getdel", "a")
	p.changes(nil, "getdel", "a")
	p.timed("a", "1", 9000)
	p.changes([]string{"a"}, "getdel", "a")
	p.hasNot("a")
	p.null("getset", "a", "2")
	p.endless("a")
	if p.s.Len(p.now) != 1 {
		t.Errorf("P21.1: %d keys", p.s.Len(p.now))
	}
}

// TestRepliesStay asks that what was told stays as it was, whatever becomes of the keys.
func TestRepliesStay(t *testing.T) {
	p := fresh(t)
	for _, args := range [][]string{{"get", "a"}, {"getrange", "a", "0", "-1"}, {"mget", "a", "b", "a"}, {"getset", "a", "old"}, {"set", "a", "old", "GET"}, {"setbit", "a", "7", "1"}} {
		p.ok("mset", "a", "old", "b", "other")
		r, err := p.do(args...)
		if err != nil {
			t.Fatal(err)
		}
		was := reply.Sorted(r)
		for _, next := range [][]string{{"append", "a", "x"}, {"setrange", "a", "0", "XYZ"}, {"setbit", "a", "1", "0"}, {"mset", "a", "1", "b", "2"}, {"incr", "a"}, {"getdel", "a"}, {"getdel", "b"}} {
			if _, err := p.do(next...); err != nil {
				t.Fatal(err)
			}
			if !reply.Same(r, was) {
				t.Errorf("R2: what %s told is %v behind %s, was %v", show(args), r, show(next), was)
			}
		}
	}
}

// TestRepliesAreNew asks that what is done to a reply is not seen elsewhere.
func TestRepliesAreNew(t *testing.T) {
	p := fresh(t)
	p.ok("mset", "a", "1", "b", "2")
	first, _ := p.do("mget", "a", "b", "a")
	second, _ := p.do("mget", "a", "b", "a")
	for i := range first.L[:cap(first.L)] {
		first.L[:cap(first.L)][i] = reply.Int(9)
	}
	if !reply.Same(second, texts("1", "2", "1")) {
		t.Errorf("R2: %v", second)
	}
	p.tells(texts("1", "2", "1"), "mget", "a", "b", "a")
}

// TestWordsMayBeUsedAgain writes over the words behind each call.
func TestWordsMayBeUsedAgain(t *testing.T) {
	p := fresh(t)
	args := make([]string, 5, 9)
	for i := range 20 {
		copy(args, []string{"mset", fmt.Sprint("a", i), "1", fmt.Sprint("b", i), "2"})
		p.ok(args...)
		copy(args, slices.Repeat([]string{"spoilt"}, 5))
	}
	for i := range 20 {
		p.has(fmt.Sprint("a", i), "1")
		p.has(fmt.Sprint("b", i), "2")
	}
}

// TestTheValueStays holds that a key that keeps its expiry keeps its value, too: who has it of the space sees what is done.
func TestTheValueStays(t *testing.T) {
	p := fresh(t)
	v := value.OfText("7")
	p.s.Put("a", v, p.now)
	for _, x := range []struct {
		args []string
		want string
	}{
		{[]string{"incr", "a"}, "8"}, {[]string{"append", "a", "0"}, "80"}, {[]string{"decrby", "a", "5"}, "75"}, {[]string{"setrange", "a", "1", "9"}, "79"}, {[]string{"setbit", "a", "15", "0"}, "78"}, {[]string{"set", "a", "1", "NX"}, "78"}, {[]string{"append", "a", ""}, "78"},
	} {
		if _, err := p.do(x.args...); err != nil || v.Text != x.want || p.s.Get("a", p.now) != v {
			t.Errorf("P21.1: %s: %v, %v, want %s", show(x.args), v, err, x.want)
		}
	}
	for _, args := range [][]string{{"set", "a", "1"}, {"getset", "a", "2"}, {"mset", "a", "3"}, {"getdel", "a"}} {
		if _, err := p.do(args...); err != nil || v.Text != "78" {
			t.Errorf("P21.1: %s: %v, %v", show(args), v, err)
		}
	}
}
