package hashes_test

import (
	"slices"
	"strings"
	"testing"

	"tallboy/api"
	"tallboy/reply"
)

func TestHget(t *testing.T) {
	for _, made := range ways {
		p := fresh(t)
		p.put("a", made("f", "1", "e", "", "", "x", "long", longest))
		p.bulk("1", "hget", "a", "f")
		p.bulk("", "HGET", "a", "e")
		p.bulk("x", "HGet", "a", "")
		p.bulk(longest, "hget", "a", "long")
		p.null("hget", "a", "F")
		p.null("hget", "a", "1")
		p.null("hget", "a", "f ")
		p.null("hget", "A", "f")
	}
}

// TestHmget has fields that are there, that are not, and one twice.
func TestHmget(t *testing.T) {
	for _, made := range ways {
		p := fresh(t)
		p.put("a", made("f", "1", "e", "", "g", "f"))
		p.tells(array("1"), "hmget", "a", "f")
		p.tells(array("none"), "hmget", "a", "1")
		p.tells(array("", "1", "none", "1", "", "f"), "hmget", "a", "e", "f", "no", "f", "e", "g")
		p.tells(array("none", "none", "none"), "HMGET", "a", "", "no", "no")
		p.tells(array("none", "none"), "hmget", "none", "f", "f")
		// Its order is the words'.
		if r, _ := p.do("hmget", "a", "g", "f"); reply.Same(r, array("1", "f")) {
			t.Error("P22.1: hmget tells in another order")
		}
		args := slices.Repeat([]string{"f"}, api.MaxArgs)
		args[0], args[1] = "hmget", "a"
		p.tells(array(slices.Repeat([]string{"1"}, api.MaxArgs-2)...), args...)
	}
}

func TestHexists(t *testing.T) {
	for _, made := range ways {
		p := fresh(t)
		p.put("a", made("f", "1", "e", ""))
		p.number(1, "hexists", "a", "f")
		p.number(1, "HEXISTS", "a", "e")
		for _, f := range []string{"", "1", "F", "ff", "none"} {
			p.number(0, "hexists", "a", f)
			p.number(0, "hexists", "none", f)
		}
	}
}

// TestHstrlen has empty values, none, and long ones.
func TestHstrlen(t *testing.T) {
	for _, made := range ways {
		for _, n := range []int{0, 1, 2, 9, 10, 60, 61, 255, 256, 4095, 4096} {
			p := fresh(t)
			p.put("a", made("g", "xyz", "f", longest[:n]))
			p.number(int64(n), "hstrlen", "a", "f")
			p.number(3, "HSTRLEN", "a", "g")
			p.number(0, "hstrlen", "a", "none")
			p.number(0, "hstrlen", "a", "xyz")
		}
	}
	p := fresh(t)
	p.hash("a", "f", "\xc3\xa4\x00", "n", "-12")
	p.number(3, "hstrlen", "a", "f")
	p.number(3, "hstrlen", "a", "n")
}

// TestAllOfAHash asks for the fields and values of one, of few, and of many: each is told once.
func TestAllOfAHash(t *testing.T) {
	for _, n := range []int{1, 2, 3, 4, 100, 112, 113, 2000} {
		for way, made := range ways {
			if way == "packed" && n > 512 {
				continue
			}
			p := fresh(t)
			l := many(n)
			p.put("a", made(l...))
			var names, texts []string
			for pair := range slices.Chunk(l, 2) {
				names = append(names, pair[0])
				texts = append(texts, pair[1])
			}
			p.number(int64(n), "hlen", "a")
			p.tells(setOf(names...), "hkeys", "a")
			p.tells(setOf(texts...), "hvals", "a")
			p.tells(mapOf(l...), "hgetall", "a")
			p.tells(mapOf(l...), "HGetAll", "a")
		}
	}
}

// TestValuesThatAreTheSame are told as often as fields have them.
func TestValuesThatAreTheSame(t *testing.T) {
	for _, made := range ways {
		p := fresh(t)
		p.put("a", made("f", "x", "g", "x", "h", "", "i", "x", "j", ""))
		p.tells(setOf("x", "x", "x", "", ""), "hvals", "a")
		p.tells(setOf("f", "g", "h", "i", "j"), "hkeys", "a")
		r, _ := p.do("hgetall", "a")
		if len(r.L) != 10 {
			t.Errorf("P22.1: hgetall: %s", cut(r))
		}
		for i := 0; i < len(r.L); i += 2 {
			if strings.Contains("fgi", r.L[i].S) != (r.L[i+1].S == "x") {
				t.Errorf("P22.1: hgetall: %s", cut(r))
			}
		}
	}
}

// TestLengthsOnTheWay asks how many fields there are behind each change.
func TestLengthsOnTheWay(t *testing.T) {
	p := fresh(t)
	l := []string{"a", "b", "c", "d", "e", "f"}
	for i, f := range l {
		p.number(int64(i), "hlen", "k")
		p.number(1, "hset", "k", f, "1")
	}
	for i, f := range l {
		p.number(int64(len(l)-i), "HLEN", "k")
		p.number(0, "hset", "k", f, "2")
		p.number(1, "hdel", "k", f)
	}
	p.number(0, "hlen", "k")
}
