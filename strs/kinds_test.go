package strs_test

import (
	"testing"

	"tallboy/api"
	"tallboy/reply"
	"tallboy/value"
)

// TestOverNothing asks each command for a key that is not there: which is as an empty text.
func TestOverNothing(t *testing.T) {
	for _, x := range []struct {
		name string
		told api.Reply
		has  string
		// there tells whether the key is there behind it.
		there bool
	}{
		{"get", null, "", false},
		{"set", reply.OK(), "v", true},
		{"setnx", reply.Int(1), "v", true},
		{"getset", null, "v", true},
		{"getdel", null, "", false},
		{"append", reply.Int(1), "v", true},
		{"strlen", reply.Int(0), "", false},
		{"incr", reply.Int(1), "1", true},
		{"decr", reply.Int(-1), "-1", true},
		{"incrby", reply.Int(2), "2", true},
		{"decrby", reply.Int(-2), "-2", true},
		{"getrange", reply.Bulk(""), "", false},
		{"setrange", reply.Int(2), "\x00v", true},
		{"getbit", reply.Int(0), "", false},
		{"setbit", reply.Int(0), "\x01", true},
		{"bitcount", reply.Int(0), "", false},
		{"mget", nulls(1), "", false},
		{"mset", reply.OK(), "v", true},
	} {
		for _, key := range []string{"a", "", "\x00\xff\r\n"} {
			p := fresh(t)
			p.tells(x.told, of(x.name, key)...)
			if !x.there {
				p.hasNot(key)
				continue
			}
			p.has(key, x.has)
			p.endless(key)
			if p.s.Len(p.now) != 1 {
				t.Errorf("P21.1: %s: %d keys", x.name, p.s.Len(p.now))
			}
		}
	}
}

// TestOverAnEmptyText asks each command for a key that has an empty text: it stays there, but of getdel.
func TestOverAnEmptyText(t *testing.T) {
	for _, x := range []struct {
		name string
		told api.Reply
		has  string
	}{
		{"get", reply.Bulk(""), ""},
		{"set", reply.OK(), "v"},
		{"setnx", reply.Int(0), ""},
		{"getset", reply.Bulk(""), "v"},
		{"append", reply.Int(1), "v"},
		{"strlen", reply.Int(0), ""},
		{"incr", reply.Int(1), "1"},
		{"decr", reply.Int(-1), "-1"},
		{"incrby", reply.Int(2), "2"},
		{"decrby", reply.Int(-2), "-2"},
		{"getrange", reply.Bulk(""), ""},
		{"setrange", reply.Int(2), "\x00v"},
		{"getbit", reply.Int(0), ""},
		{"setbit", reply.Int(0), "\x01"},
		{"bitcount", reply.Int(0), ""},
		{"mget", texts(""), ""},
		{"mset", reply.OK(), "v"},
	} {
		p := fresh(t)
		p.text("a", "")
		p.tells(x.told, of(x.name, "a")...)
		p.has("a", x.has)
	}
	p := fresh(t)
	p.text("a", "")
	p.bulk("", "getdel", "a")
	p.hasNot("a")
}

// TestOverAText asks each command for a key that has one.
func TestOverAText(t *testing.T) {
	for _, x := range []struct {
		name string
		told api.Reply
		has  string
	}{
		{"get", reply.Bulk("41"), "41"},
		{"set", reply.OK(), "v"},
		{"setnx", reply.Int(0), "41"},
		{"getset", reply.Bulk("41"), "v"},
		{"append", reply.Int(3), "41v"},
		{"strlen", reply.Int(2), "41"},
		{"incr", reply.Int(42), "42"},
		{"decr", reply.Int(40), "40"},
		{"incrby", reply.Int(43), "43"},
		{"decrby", reply.Int(39), "39"},
		{"getrange", reply.Bulk("41"), "41"},
		{"setrange", reply.Int(2), "4v"},
		{"getbit", reply.Int(0), "41"},
		{"setbit", reply.Int(0), "51"},
		{"bitcount", reply.Int(6), "41"},
		{"mget", texts("41"), "41"},
		{"mset", reply.OK(), "v"},
	} {
		p := fresh(t)
		p.text("a", "41")
		p.text("b", "other")
		p.tells(x.told, of(x.name, "a")...)
		p.has("a", x.has)
		p.has("b", "other")
	}
	p := fresh(t)
	p.text("a", "41")
	p.text("b", "other")
	p.bulk("41", "getdel", "a")
	p.hasNot("a")
	p.has("b", "other")
}

// TestOverOtherKinds asks each command for a hash, a set and a list.
func TestOverOtherKinds(t *testing.T) {
	for _, name := range sortedNames() {
		for key, kind := range collections {
			p := fresh(t)
			p.collect()
			was := p.s.Get(key, p.now)
			switch name {
			case "set", "mset":
				p.ok(of(name, key)...)
				p.has(key, "v")
				p.endless(key)
				continue
			case "setnx":
				p.number(0, of(name, key)...)
			case "mget":
				p.tells(nulls(1), of(name, key)...)
			default:
				p.refused(api.ErrType, of(name, key)...)
			}
			v := p.s.Get(key, p.now)
			if v != was || v.Kind != kind || !value.Same(v, made(kind, "a", "b")) {
				t.Errorf("P21.1: %s of a %s: %v", name, key, v)
			}
			p.until(key, p.now+500)
		}
	}
}

// TestOtherKindsWithOtherWords asks with words for which nothing would be done, or what is asked for later would be refused.
func TestOtherKindsWithOtherWords(t *testing.T) {
	p := fresh(t)
	p.collect()
	for key := range collections {
		for _, args := range [][]string{
			{"append", key, ""},
			{"incrby", key, "0"},
			{"decrby", key, "0"},
			{"setrange", key, "0", ""},
			{"setrange", key, "-1", "x"},
			{"setrange", key, "-1", ""},
			{"setrange", key, "65536", "x"},
			{"setbit", key, "0", "0"},
			{"bitcount", key, "0", "-1"},
			{"getrange", key, "5", "1"},
			{"set", key, "v", "GET"},
			{"set", key, "v", "GET", "NX"},
			{"set", key, "v", "GET", "XX"},
			{"set", key, "v", "GET", "KEEPTTL"},
			{"set", key, "v", "EX", "5", "GET"},
		} {
			p.refused(api.ErrType, args...)
		}
		p.null("set", key, "v", "NX")
		p.null("set", key, "v", "NX", "EX", "5")
	}
}

// TestOddKeys has texts and keys of any bytes.
func TestOddKeys(t *testing.T) {
	odd := []string{"", "\x00", "\r\n", " ", "\xff\xfe", "ä", "get", "NX", "'", "*1\r\n", "-1", longest[:api.MaxEntry-1], longest[:api.MaxEntry]}
	p := fresh(t)
	for i, key := range odd {
		s := odd[len(odd)-1-i]
		p.ok("set", key, s)
		p.bulk(s, "get", key)
		p.number(int64(len(s)), "strlen", key)
		p.bulk(s, "getset", key, key)
		p.bulk(key, "getdel", key)
		p.number(1, "setnx", key, s)
		p.number(int64(2*len(s)), "append", key, s)
		p.bulk(s+s, "getrange", key, "0", "-1")
	}
	for i, key := range odd {
		s := odd[len(odd)-1-i]
		p.has(key, s+s)
	}
}
