package hashes_test

import (
	"slices"
	"strings"
	"testing"

	"tallboy/api"
	"tallboy/hashes"
	"tallboy/reply"
	"tallboy/value"
)

// TestOverNothing asks each command for a key that is not there: which is as an empty hash.
func TestOverNothing(t *testing.T) {
	for _, x := range []struct {
		name string
		told api.Reply
		has  []string
	}{
		{"hset", reply.Int(1), []string{"f", "v"}},
		{"hsetnx", reply.Int(1), []string{"f", "v"}},
		{"hget", null, nil},
		{"hmget", array("none"), nil},
		{"hdel", reply.Int(0), nil},
		{"hexists", reply.Int(0), nil},
		{"hlen", reply.Int(0), nil},
		{"hkeys", setOf(), nil},
		{"hvals", setOf(), nil},
		{"hgetall", mapOf(), nil},
		{"hincrby", reply.Int(2), []string{"n", "2"}},
		{"hstrlen", reply.Int(0), nil},
		{"hscan", scanned("0"), nil},
	} {
		for _, key := range []string{"a", "", "\x00\xff\r\n", longest} {
			p := fresh(t)
			p.tells(x.told, of(x.name, key)...)
			if x.has == nil {
				p.hasNot(key)
				continue
			}
			p.has(key, x.has...)
			p.endless(key)
			if p.s.Len(p.now) != 1 {
				t.Errorf("P22.1: %s: %d keys", x.name, p.s.Len(p.now))
			}
		}
	}
}

// TestOverAHash asks each command for a hash, however it is kept, beside another one that stays.
func TestOverAHash(t *testing.T) {
	pairs := []string{"f", "41", "e", "", "n", "-7"}
	for _, x := range []struct {
		name string
		told api.Reply
		has  []string
	}{
		{"hset", reply.Int(0), []string{"f", "v", "e", "", "n", "-7"}},
		{"hsetnx", reply.Int(0), pairs},
		{"hget", reply.Bulk("41"), pairs},
		{"hmget", array("41"), pairs},
		{"hdel", reply.Int(1), []string{"e", "", "n", "-7"}},
		{"hexists", reply.Int(1), pairs},
		{"hlen", reply.Int(3), pairs},
		{"hkeys", setOf("f", "e", "n"), pairs},
		{"hvals", setOf("41", "", "-7"), pairs},
		{"hgetall", mapOf(pairs...), pairs},
		{"hincrby", reply.Int(-5), []string{"f", "41", "e", "", "n", "-5"}},
		{"hstrlen", reply.Int(2), pairs},
		{"hscan", scanned("0", pairs...), pairs},
	} {
		for way, made := range ways {
			p := fresh(t)
			p.put("a", made(pairs...))
			p.s.Expire("a", 5000, p.now)
			p.put("b", made("f", "another"))
			was := p.s.Get("a", p.now)
			if x.name != "hscan" || way == "packed" {
				p.tells(x.told, of(x.name, "a")...)
			}
			p.has("a", x.has...)
			p.until("a", 5000)
			p.has("b", "f", "another")
			p.endless("b")
			if p.s.Get("a", p.now) != was {
				t.Errorf("P22.1: %s of a hash %s: another value", x.name, way)
			}
			p.packed("a", way == "packed")
		}
	}
}

// TestOverOtherKinds asks each command for a text, a set and a list: ErrType, and nothing is changed.
func TestOverOtherKinds(t *testing.T) {
	for _, name := range sortedNames() {
		for key, kind := range others {
			p := fresh(t)
			p.collect()
			was := p.s.Get(key, p.now)
			p.refused(api.ErrType, of(name, key)...)
			args := of(name, key)
			args[0] = strings.ToUpper(name)
			p.refused(api.ErrType, args...)
			if v := p.s.Get(key, p.now); v != was || !value.Same(v, other(kind)) {
				t.Errorf("P22.1: %s of a %s: %v", name, key, v)
			}
			p.until(key, p.now+500)
		}
	}
}

// TestOtherKindsWithOtherWords asks for what would do nothing to a hash.
func TestOtherKindsWithOtherWords(t *testing.T) {
	p := fresh(t)
	p.collect()
	p.put("empty", value.OfText(""))
	for _, key := range []string{"text", "set", "list", "empty"} {
		for _, args := range [][]string{
			{"hset", key, "f", "v", "f", "w"},
			{"hset", key, "", ""},
			{"hsetnx", key, "", ""},
			{"hmget", key, "f", "g", "f"},
			{"hdel", key, "none", "none"},
			{"hincrby", key, "f", "0"},
			{"hincrby", key, "f", most},
			{"hscan", key, "77"},
			{"hscan", key, "0", "MATCH", "*"},
			{"hscan", key, "0", "COUNT", "1", "MATCH", ""},
		} {
			p.refused(api.ErrType, args...)
		}
	}
}

// TestLimitsOfFields sets fields up to as many as a pack may have, and one beyond: never again it is a pack, unless the key was gone.
func TestLimitsOfFields(t *testing.T) {
	for _, most := range []int{0, 1, 2, 3, 20, 511, 512} {
		p := within(t, api.Limits{Entries: most, Text: 60})
		l := many(most + 1)
		for i := range most {
			if _, err := hashes.Do(p.s, p.now, 0, []string{"hset", "a", l[2*i], l[2*i+1]}); err != nil {
				t.Fatal(err)
			}
			p.packed("a", true)
		}
		p.number(1, "hset", "a", l[2*most], l[2*most+1])
		p.packed("a", false)
		p.has("a", l...)
		p.number(1, "hdel", "a", l[0])
		if most == 0 {
			p.hasNot("a")
			continue
		}
		p.packed("a", false)
		p.has("a", l[2:]...)
		for field := range slices.Chunk(l[2:], 2) {
			_, _ = hashes.Do(p.s, p.now, 0, []string{"hdel", "a", field[0]})
		}
		p.hasNot("a")
		p.number(1, "hsetnx", "a", "f", "v")
		p.packed("a", true)
	}
}

// TestLimitsOfFieldsAtOnce sets several fields by one command.
func TestLimitsOfFieldsAtOnce(t *testing.T) {
	for n := 1; n <= 6; n++ {
		p := fresh(t)
		l := []string{"a", "1", "b", "2", "c", "3", "d", "4", "e", "5", "f", "6"}[:2*n]
		p.number(int64(n), append([]string{"hset", "k"}, l...)...)
		p.packed("k", n <= limits.Entries)
		p.has("k", l...)
	}
	p := fresh(t)
	p.number(3, "hset", "k", "a", "1", "b", "2", "c", "3", "a", "4", "b", "5")
	p.packed("k", true)
	p.number(0, "hsetnx", "k", "a", "9")
	p.packed("k", true)
	p.number(1, "hsetnx", "k", "d", "9")
	p.packed("k", false)
	p.has("k", "a", "4", "b", "5", "c", "3", "d", "9")
	p = fresh(t)
	p.number(3, "hset", "k", "a", "1", "b", "2", "c", "3")
	p.number(1, "hincrby", "k", "c", "-2")
	p.packed("k", true)
	p.number(5, "hincrby", "k", "d", "5")
	p.packed("k", false)
}

// TestLimitsOfTexts sets fields and values of as many bytes as a text of a pack may have, and of one beyond.
func TestLimitsOfTexts(t *testing.T) {
	for _, most := range []int{0, 1, 9, 59, 60} {
		fits, long := longest[:most], longest[:most+1]
		for _, x := range []struct {
			pairs  []string
			packed bool
		}{
			{[]string{fits, fits}, true}, {[]string{"", fits}, true}, {[]string{fits, ""}, true},
			{[]string{long, fits}, false}, {[]string{fits, long}, false}, {[]string{long, long}, false},
			{[]string{"", "", longest, longest}, false}, {[]string{"", long, "", fits}, false},
		} {
			p := within(t, api.Limits{Entries: 5, Text: most})
			v := hashOf(limits, x.pairs...)
			p.number(int64(v.Len()), append([]string{"hset", "a"}, x.pairs...)...)
			p.packed("a", x.packed)
			p.has("a", x.pairs...)
			if len(x.pairs) == 2 {
				p.number(1, append([]string{"hsetnx", "b"}, x.pairs...)...)
				p.packed("b", x.packed)
				p.bulk(x.pairs[1], "hget", "b", x.pairs[0])
				p.tells(mapOf(x.pairs...), "hgetall", "b")
			}
		}
	}
	p := within(t, api.Limits{Entries: 5, Text: 2})
	p.number(98, "hincrby", "a", "n", "98")
	p.number(99, "hincrby", "a", "n", "1")
	p.packed("a", true)
	p.number(100, "hincrby", "a", "n", "1")
	p.packed("a", false)
	p.number(1, "hincrby", "a", "n", "-99")
	p.packed("a", false)
	p.has("a", "n", "1")
}

// TestAHashIsMadeOfTheConfig asks that a hash that comes to be there has the space's limits, whichever command makes it.
func TestAHashIsMadeOfTheConfig(t *testing.T) {
	for _, name := range []string{"hset", "hsetnx", "hincrby"} {
		for _, l := range []api.Limits{{}, {Entries: -1, Text: 60}, {Entries: 1, Text: 1}, {Entries: 1}, {Text: 1}, {Entries: 1 << 30, Text: 1 << 30}} {
			p := within(t, l)
			if _, err := p.do(of(name, "a")...); err != nil {
				t.Errorf("P22.1: %s: %v", name, err)
			}
			p.packed("a", l.Entries > 0 && l.Text > 0)
		}
	}
}

// TestOrdersAreTheSame asks that two spaces to which the same is done tell the same, orders too.
func TestOrdersAreTheSame(t *testing.T) {
	for _, l := range []api.Limits{limits, {Entries: 512, Text: 60}} {
		for _, name := range []string{"hkeys", "hvals", "hgetall", "hscan"} {
			var told []api.Reply
			for range 3 {
				p := within(t, l)
				for pair := range slices.Chunk(many(300), 2) {
					_, _ = hashes.Do(p.s, 0, 0, []string{"hset", "a", pair[0], pair[1]})
				}
				for range 2 {
					r, err := p.do(of(name, "a")...)
					if err != nil {
						t.Fatal(err)
					}
					told = append(told, r)
				}
			}
			for _, r := range told {
				if !reply.Same(r, told[0]) {
					t.Errorf("R4: %s: %s, then %s", name, cut(told[0]), cut(r))
				}
			}
		}
	}
}

// TestOddTexts has keys, fields and values of any bytes.
func TestOddTexts(t *testing.T) {
	odd := []string{"", "\x00", "\r\n", " ", "\xff\xfe", "ä", "hget", "MATCH", "'", "*1\r\n", "-1", longest[1:], longest}
	for _, l := range []api.Limits{limits, {Entries: 512, Text: 60}} {
		p := within(t, l)
		for i, key := range odd {
			var all []string
			for k, f := range odd {
				s := odd[(i+k)%len(odd)]
				all = append(all, f, s)
				p.number(1, "hset", key, f, s)
				p.bulk(s, "hget", key, f)
				p.number(int64(len(s)), "hstrlen", key, f)
				p.number(0, "hsetnx", key, f, "other")
				p.number(1, "hexists", key, f)
			}
			p.has(key, all...)
			p.tells(mapOf(all...), "hgetall", key)
			p.tells(setOf(odd...), "hkeys", key)
			p.tells(setOf(odd...), "hvals", key)
		}
		for _, key := range odd {
			p.number(int64(len(odd)), append([]string{"hdel", key}, odd...)...)
			p.hasNot(key)
		}
	}
}
