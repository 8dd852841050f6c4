package hashes_test

import (
	"errors"
	"math"
	"reflect"
	"slices"
	"strings"
	"testing"

	"tallboy/api"
	"tallboy/cmd"
	"tallboy/fault"
	"tallboy/hashes"
	"tallboy/reply"
	"tallboy/space"
)

// TestEachCommandIsKnown holds the tests' own list against the table of commands.
func TestEachCommandIsKnown(t *testing.T) {
	var names []string
	for _, name := range cmd.Names() {
		if c, _ := cmd.Lookup(name); c.Group == cmd.Hashes {
			names = append(names, name)
		}
	}
	if !slices.Equal(names, sortedNames()) {
		t.Fatalf("%q, want %q", sortedNames(), names)
	}
	for _, name := range names {
		for _, spelt := range []string{name, strings.ToUpper(name), strings.ToUpper(name[:1]) + name[1:]} {
			p := fresh(t)
			p.hash("a", "f", "1")
			args := of(name, "a")
			args[0] = spelt
			if _, err := p.do(args...); err != nil || fault.Code(err) != api.OK {
				t.Errorf("P22.1: %s: %v", spelt, err)
			}
		}
	}
}

// TestWhatCheckRefuses hands in what cmd.Check refuses: the same is told.
func TestWhatCheckRefuses(t *testing.T) {
	p := fresh(t)
	p.collect()
	p.timed("a", 2000, "f", "1")
	long := strings.Repeat("L", api.MaxEntry+1)
	for _, args := range [][]string{
		{""}, {"nosuch"}, {"NoSuch", "a"}, {"hget "}, {"hget\x00", "a", "f"}, {long, "a"}, {strings.Repeat("N", 70)},
		{"hset"}, {"hset", "a"}, {"hset", "a", "f"}, {"HSET", "a", "f", "1", "g"}, {"hset", "a", "f", "1", "g", "2", "h"},
		{"hsetnx", "a", "f"}, {"hsetnx", "a", "f", "1", "g", "2"}, {"hget", "a"}, {"HGET", "a", "f", "g"}, {"hmget"}, {"hmget", "a"}, {"hdel", "a"},
		{"hexists", "a"}, {"hexists", "a", "f", "g"}, {"hlen"}, {"hlen", "a", "f"}, {"hkeys"}, {"hkeys", "a", "*"}, {"hvals"}, {"hvals", "a", "b"}, {"hgetall"}, {"hgetall", "a", "f"},
		{"hincrby", "a", "f"}, {"hincrby", "a", "f", "1", "2"}, {"hstrlen", "a"}, {"hstrlen", "a", "f", "g"}, {"hscan", "a"}, {"hscan", "a", "0", "MATCH", "x", "COUNT", "1", "MATCH"}, {"hscan", "list"},
		slices.Repeat([]string{"hmget"}, api.MaxArgs+1), slices.Repeat([]string{"hdel"}, api.MaxArgs+1), slices.Repeat([]string{"hset"}, api.MaxArgs+2), slices.Repeat([]string{"hset"}, api.MaxArgs-1),
		{"hset", long, "f", "1"}, {"hset", "a", long, "1"}, {"hset", "a", "f", long}, {"hset", "a", "f", "1", "g", long}, {"hsetnx", "a", "f", long}, {"hget", "a", long}, {"hget", "none", long}, {"hmget", "a", "f", long},
		{"hdel", "a", "f", long}, {"hincrby", "a", "f", long}, {"hscan", "a", long}, {"hscan", "a", "0", "MATCH", long}, {"hget", "list", long},
		{"get"}, {"ping", "a", "b"}, {"lpush", "list"}, {"get", long}, {"set", "a"},
	} {
		_, why := cmd.Check(args)
		if why == nil {
			t.Fatalf("%s is not refused", show(args))
		}
		was := p.states([]string{"a"})
		r, err := hashes.Do(p.s, p.now, 0, args)
		if !reflect.DeepEqual(err, why) || !reflect.DeepEqual(r, api.Reply{}) {
			t.Errorf("P22.1: %s: %v, %v, want %v", show(args), r, err, why)
		}
		if is := p.states([]string{"a"}); !unchanged(was, is) {
			t.Errorf("R3: %s changed something", show(args))
		}
	}
}

// TestEachCommandWithEachCount asks with each number of words.
func TestEachCommandWithEachCount(t *testing.T) {
	p := fresh(t)
	for _, name := range sortedNames() {
		for n := 1; n <= 12; n++ {
			args := slices.Repeat([]string{"1"}, n)
			args[0] = name
			_, why := cmd.Check(args)
			_, err := p.do(args...)
			if code := fault.Code(why); code != api.OK && fault.Code(err) != code {
				t.Errorf("P22.1: %s with %d words: %v, want %v", name, n, err, why)
			} else if code == api.OK && fault.Code(err) == api.ErrArity {
				t.Errorf("P22.1: %s with %d words: %v", name, n, err)
			}
		}
	}
}

func TestNoWords(t *testing.T) {
	p := fresh(t)
	room := []string{"hlen", "a"}
	for _, args := range [][]string{nil, {}, room[:0], room[2:]} {
		for _, s := range []*space.Space{p.s, nil} {
			r, err := hashes.Do(s, 0, 0, args)
			if fault.Code(err) != api.ErrUnknown || fault.Cmd(err) != "" || fault.Depth(err) != 1 || !reflect.DeepEqual(r, api.Reply{}) {
				t.Errorf("P22.1: of no words: %v, %v", r, err)
			}
		}
	}
}

// TestCommandsOfOtherGroups asks for each of them, as it would be right.
func TestCommandsOfOtherGroups(t *testing.T) {
	p := fresh(t)
	p.collect()
	p.hash("1", "1", "1")
	strangers := 0
	for _, name := range cmd.Names() {
		c, _ := cmd.Lookup(name)
		if c.Group == cmd.Hashes {
			continue
		}
		strangers++
		for _, spelt := range []string{name, strings.ToUpper(name)} {
			for _, key := range []string{"1", "text", "set", "list"} {
				args := slices.Repeat([]string{key}, c.Least)
				args[0] = spelt
				p.refused(api.ErrUnknown, args...)
			}
		}
	}
	if strangers != 81-13 {
		t.Errorf("%d commands of other groups", strangers)
	}
}

// TestNoSpace hands in none: what the chapter refuses first comes first, then ErrForm, whatever the words ask for.
func TestNoSpace(t *testing.T) {
	for _, name := range sortedNames() {
		for _, args := range [][]string{of(name, "a"), of(name, "")} {
			r, err := hashes.Do(nil, 5, 1, args)
			if fault.Code(err) != api.ErrForm || fault.Cmd(err) != name || fault.Depth(err) != 1 || !reflect.DeepEqual(r, api.Reply{}) {
				t.Errorf("R1: %s without a space: %v, %v", name, r, err)
			}
		}
		if _, err := hashes.Do(nil, 5, 1, []string{name}); fault.Code(err) != api.ErrArity {
			t.Errorf("P22.1: %s alone without a space: %v", name, err)
		}
	}
	for _, args := range [][]string{{"hscan", "a", "x"}, {"hincrby", "a", "f", "x"}} {
		if _, err := hashes.Do(nil, 5, 1, args); fault.Code(err) != api.ErrForm {
			t.Errorf("R1: %s without a space: %v", show(args), err)
		}
	}
	if _, err := hashes.Do(nil, 5, 1, []string{"get", "a"}); fault.Code(err) != api.ErrUnknown {
		t.Errorf("P22.1: get without a space: %v", err)
	}
}

// TestWhatErrorsSay asks errors for their codes in each way, and for what a client is told.
func TestWhatErrorsSay(t *testing.T) {
	p := fresh(t)
	p.collect()
	p.hash("a", "x", "x", "most", most)
	wrong := "WRONGTYPE Operation against a key holding the wrong kind of value"
	for _, x := range []struct {
		args []string
		why  api.Code
		told string
	}{
		{[]string{"HGET", "list", "f"}, api.ErrType, wrong},
		{[]string{"hset", "text", "f", "v"}, api.ErrType, wrong},
		{[]string{"HScan", "set", "0"}, api.ErrType, wrong},
		{[]string{"HINCRBY", "a", "x", "1"}, api.ErrHashInt, "ERR hash value is not an integer"},
		{[]string{"hincrby", "a", "most", "1"}, api.ErrOver, "ERR increment or decrement would overflow"},
		{[]string{"HIncrBy", "a", "f", "x"}, api.ErrInt, "ERR value is not an integer or out of range"},
		{[]string{"HSCAN", "a", "x"}, api.ErrCursor, "ERR invalid cursor"},
		{[]string{"hscan", "a", "0", "foo"}, api.ErrSyntax, "ERR syntax error"},
		{[]string{"HSCAN", "a", "0", "COUNT", "x"}, api.ErrInt, "ERR value is not an integer or out of range"},
		{[]string{"GET", "a"}, api.ErrUnknown, "ERR unknown command 'get'"},
		{[]string{"HGET", "a"}, api.ErrArity, "ERR wrong number of arguments for 'hget' command"},
		{[]string{"HSET", "a", "f", "v", "g"}, api.ErrArity, "ERR wrong number of arguments for 'hset' command"},
		{[]string{"HGET", "a", longest + "x"}, api.ErrLong, "ERR string exceeds maximum allowed size"},
	} {
		p.refused(x.why, x.args...)
		_, err := p.do(x.args...)
		for other := api.OK; other <= api.ErrOffset+1; other++ {
			if errors.Is(err, other) != (other == x.why) {
				t.Errorf("P22.1: %s: %v and %v", show(x.args), err, other)
			}
		}
		if got := reply.Fail(fault.Cmd(err), err); got.S != x.told {
			t.Errorf("P22.1: %s: a client is told %q", show(x.args), got.S)
		}
		if err.Error() == "" {
			t.Errorf("R7: %s: says nothing", show(x.args))
		}
	}
}

// TestDrawMakesNoDifference asks with numbers at each bound.
func TestDrawMakesNoDifference(t *testing.T) {
	for _, name := range sortedNames() {
		want, _ := hashes.Do(fresh(t).s, 5, 0, of(name, "a"))
		for _, draw := range []uint64{1, 7, 1 << 63, math.MaxUint64} {
			if got, err := hashes.Do(fresh(t).s, 5, draw, of(name, "a")); err != nil || !reflect.DeepEqual(got, want) {
				t.Errorf("R4: %s with %d: %v, %v, want %v", name, draw, got, err, want)
			}
		}
	}
}

// TestTimesBeyondTheBound asks that calls end.
func TestTimesBeyondTheBound(t *testing.T) {
	for _, now := range []int64{math.MinInt64, -1, 1<<50 + 1, math.MaxInt64 - 1, math.MaxInt64} {
		s := space.New(api.Config{})
		s.Put("a", hashOf(limits, "f", "1"), now)
		for _, name := range sortedNames() {
			_, _ = hashes.Do(s, now, 0, of(name, "a"))
		}
	}
}
