package hashes_test

import (
	"reflect"
	"slices"
	"strings"
	"testing"

	"tallboy/api"
	"tallboy/hashes"
	"tallboy/reply"
	"tallboy/space"
)

// TestWhatIsTouched has rows of commands: behind each, the keys that it changes. They are done one behind the other.
func TestWhatIsTouched(t *testing.T) {
	for _, l := range []api.Limits{limits, {}, {Entries: 512, Text: 60}} {
		p := within(t, l)
		for row := range strings.Lines(`hset a f 1 => a
hset a f 1 =>
hset a f 1 f 1 =>
hset a f 2 f 1 =>
hset a f 1 f 2 => a
hset a g 1 f 2 => a
hset a g 1 f 2 =>
hset a g  => a
hset a g  =>
hsetnx a f 9 =>
hsetnx a g 9 =>
hsetnx a h  => a
hsetnx a h  =>
hsetnx b f 1 => b
hincrby a f 0 =>
hincrby a f 1 => a
hincrby a n 0 => a
hincrby a n 0 =>
hincrby c n 0 => c
hincrby c n 0 =>
hincrby c n 5 => c
hget a f =>
hget d f =>
hmget a f no f =>
hexists a f =>
hlen a =>
hkeys a =>
hvals a =>
hgetall a =>
hstrlen a f =>
hscan a 0 =>
hscan a 7 MATCH f COUNT 1 =>
hscan d 0 =>
hdel a no =>
hdel a no no =>
hdel d f =>
hdel a f no f => a
hdel a f =>
hdel b f => b
hdel b f =>
hset b f 1 => b
hdel b f => b
hdel a g h n x => a
hdel a g h n x =>
hlen a =>
hset a f 1 => a
hsetnx a f 1 =>
`) {
			line, want, _ := strings.Cut(strings.TrimSuffix(row, "\n"), " =>")
			p.changes(strings.Fields(want), strings.Split(line, " ")...)
		}
	}
}

// TestWhatKeepsAnExpiry has each command, over a hash with an expiry and over one without.
func TestWhatKeepsAnExpiry(t *testing.T) {
	for _, args := range [][]string{
		{"hset", "a", "f", "9"}, {"hset", "a", "f", "41"}, {"hset", "a", "g", "1", "h", "2", "i", "3", "j", "4"}, {"hset", "a", "f", longest}, {"hset", "a", longest, ""},
		{"hsetnx", "a", "f", "9"}, {"hsetnx", "a", "g", "9"}, {"hincrby", "a", "f", "1"}, {"hincrby", "a", "f", "0"}, {"hincrby", "a", "n", "0"}, {"hdel", "a", "e"}, {"hdel", "a", "none"},
		{"hget", "a", "f"}, {"hmget", "a", "f", "g"}, {"hexists", "a", "f"}, {"hlen", "a"}, {"hkeys", "a"}, {"hvals", "a"}, {"hgetall", "a"}, {"hstrlen", "a", "f"}, {"hscan", "a", "0"},
	} {
		p := fresh(t)
		p.timed("a", 9000, "f", "41", "e", "")
		if _, err := p.do(args...); err != nil {
			t.Errorf("P22.1: %s: %v", show(args), err)
		}
		p.until("a", 9000)
		p.now = 8999
		if p.s.Get("a", p.now) == nil {
			t.Errorf("P22.1: %s: the key is not there", show(args))
		}
		p.now = 9000
		p.hasNot("a")
		// Nor does a key come by one.
		p = fresh(t)
		p.hash("a", "f", "41", "e", "")
		_, _ = p.do(args...)
		p.endless("a")
	}
}

// ended is a play in which keys of each Kind have come to their end, and nobody has asked for them since.
func ended(t *testing.T) *play {
	p := fresh(t)
	p.collect()
	p.timed("a", 1500, "f", "41", "n", "x")
	p.timed("great", 1500, many(300)...)
	p.now = 1500
	return p
}

// TestEndedKeys asks for keys whose time has come: they are as keys that are not there.
func TestEndedKeys(t *testing.T) {
	for _, key := range []string{"a", "great", "text", "set", "list"} {
		for _, name := range sortedNames() {
			want, why := hashes.Do(fresh(t).s, 1500, 0, of(name, key))
			p := ended(t)
			// The command is the first one to ask for the key at this time.
			got, err := hashes.Do(p.s, p.now, 0, of(name, key))
			if err != nil || why != nil || !reply.Same(got, want) {
				t.Errorf("P22.1: %s of a key that has come to its end: %v, %v, want %v, %v", name, got, err, want, why)
			}
			if _, timed := p.s.Expiry(key, p.now); timed {
				t.Errorf("P22.1: %s of a key that has come to its end: an expiry", name)
			}
			switch name {
			case "hset", "hsetnx":
				p.has(key, "f", "v")
				p.packed(key, true)
			case "hincrby":
				p.has(key, "n", "2")
			default:
				p.hasNot(key)
			}
		}
		// Just ahead of it the key is there still.
		p := ended(t)
		if _, err := hashes.Do(p.s, 1499, 0, []string{"hlen", key}); (err != nil) != (others[key] != 0) {
			t.Errorf("P22.1: hlen ahead of a key's end: %v", err)
		}
	}
}

// TestRefusalsLeaveAllAsItWas does each refusal to a space that another one is held against.
func TestRefusalsLeaveAllAsItWas(t *testing.T) {
	full := func() *play {
		p := fresh(t)
		p.collect()
		p.timed("a", 9000, "f", "1", "x", "x", "most", most)
		p.timed("great", 8000, many(200)...)
		p.hash("b", "f", "1")
		return p
	}
	for _, args := range [][]string{
		{"hset", "list", "f", "1"}, {"hset", "text", "f", "1", "g", "2"}, {"hset", "a", "f"}, {"hsetnx", "set", "g", "1"}, {"hdel", "list", "f"}, {"hdel", "text", "f", "g"},
		{"hincrby", "a", "x", "1"}, {"hincrby", "a", "most", "1"}, {"hincrby", "a", "f", "x"}, {"hincrby", "none", "f", "x"}, {"hincrby", "great", "f", ""}, {"hincrby", "text", "f", "1"},
		{"hget", "set", "f"}, {"hscan", "a", "x"}, {"hscan", "great", "0", "COUNT", "0"}, {"hscan", "list", "0"}, {"hset", "a", "f", longest + "x"}, {"hdel", "a", "f", longest + "x"}, {"nosuch", "a"}, {"del", "a"},
	} {
		for _, key := range append(full().s.Keys(1000), "none") {
			p, q := full(), full()
			if _, err := p.do(args...); err == nil {
				t.Fatalf("%s is not refused", show(args))
			}
			if is, was := p.s.Keys(p.now), q.s.Keys(q.now); !slices.Equal(is, was) {
				t.Errorf("R3: %s: the keys are %q, were %q", show(args), is, was)
			}
			for now := p.now; now <= 9000; now += 500 {
				if is, was := told(p.s, key, now), told(q.s, key, now); !reflect.DeepEqual(is, was) {
					t.Errorf("R3: %s: at %d %q is %v, was %v", show(args), now, key, is, was)
				}
			}
		}
	}
}

// told is all that a space tells of a key.
func told(s *space.Space, key string, now int64) []any {
	at, timed := s.Expiry(key, now)
	v := s.Get(key, now)
	all := []any{at, timed, v.Type(), v.Encoding(), v.Len(), s.Version(key, now)}
	if v != nil && v.Hash != nil {
		all = append(all, v.Hash.All())
	}
	return all
}

// TestVersionsOfWatchedKeys asks that the command is the first change since a watch.
func TestVersionsOfWatchedKeys(t *testing.T) {
	p := fresh(t)
	p.timed("a", 9000, "f", "1")
	watched := p.s.Version("a", p.now)
	for _, args := range [][]string{{"hset", "a", "f", "1"}, {"hset", "a", "f", "2", "f", "1"}, {"hsetnx", "a", "f", "2"}, {"hincrby", "a", "f", "0"}, {"hdel", "a", "g"}, {"hgetall", "a"}, {"hincrby", "a", "f", "x"}} {
		_, _ = p.do(args...)
		if is := p.s.Version("a", p.now); is != watched {
			t.Errorf("P22.1: %s: the Version was %d, is %d", show(args), watched, is)
		}
	}
	if none := p.s.Version("b", p.now); none != 0 {
		t.Errorf("P16.3: the Version of none is %d", none)
	}
	for _, name := range sortedNames() {
		p.refused(api.ErrArity, name)
		if c := of(name, "b"); !strings.Contains("hset hsetnx hincrby", name) {
			_, _ = p.do(c...)
		}
	}
	if none := p.s.Version("b", p.now); none != 0 {
		t.Errorf("P22.1: commands that read made %d changes of a key that is not there", none)
	}
}
