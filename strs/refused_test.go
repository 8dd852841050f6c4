package strs_test

import (
	"errors"
	"math"
	"reflect"
	"slices"
	"strings"
	"testing"

	"tallboy/api"
	"tallboy/cmd"
	"tallboy/fault"
	"tallboy/reply"
	"tallboy/space"
	"tallboy/strs"
	"tallboy/value"
)

func TestTheRun(t *testing.T) {
	p := fresh(t)
	p.ok("set", "a", "1")
	p.number(2, "incr", "a")
}

func TestTheExamples(t *testing.T) {
	p := fresh(t)
	p.collect()
	p.refused(api.ErrType, "get", "hash")
	p.refused(api.ErrSyntax, "set", "k", "v", "NX", "XX")
	p.hasNot("k")
}

// TestEachCommandIsKnown holds the tests' own list against the table of commands.
func TestEachCommandIsKnown(t *testing.T) {
	var names []string
	for _, name := range cmd.Names() {
		if c, _ := cmd.Lookup(name); c.Group == cmd.Strings {
			names = append(names, name)
		}
	}
	if !slices.Equal(names, sortedNames()) {
		t.Fatalf("%q, want %q", sortedNames(), names)
	}
	for _, name := range names {
		for _, spelt := range []string{name, strings.ToUpper(name), strings.ToUpper(name[:1]) + name[1:]} {
			p := fresh(t)
			p.text("a", "1")
			args := append([]string{spelt, "a"}, commands[name]...)
			if _, err := p.do(args...); err != nil {
				t.Errorf("P21.1: %s: %v", spelt, err)
			}
		}
	}
}

// TestWhatCheckRefuses hands in what cmd.Check refuses: the same is told.
func TestWhatCheckRefuses(t *testing.T) {
	p := fresh(t)
	p.collect()
	p.timed("a", "1", 2000)
	long := strings.Repeat("L", api.MaxEntry+1)
	rows := [][]string{
		{""}, {"nosuch"}, {"NoSuch", "a"}, {"get "}, {"get\x00", "a"}, {long, "a"}, {strings.Repeat("N", 70)},
		{"get"}, {"GET", "a", "b"}, {"set", "a"}, {"set", "a", "1", "2", "3", "4", "5", "6", "7"}, {"strlen"}, {"incr", "a", "1"}, {"incrby", "a"},
		{"getrange", "a", "0"}, {"setrange", "a", "0"}, {"getbit", "a"}, {"setbit", "a", "0"}, {"bitcount"}, {"bitcount", "a", "0", "1", "2"},
		{"mget"}, {"mset"}, {"mset", "a"}, {"mset", "a", "1", "b"}, {"MSET", "a", "1", "hash", "2", "set"},
		slices.Repeat([]string{"mget"}, api.MaxArgs+1), slices.Repeat([]string{"mset"}, api.MaxArgs+1),
		{"get", long}, {"set", "a", long}, {"set", "a", "1", long}, {"append", "a", long}, {"mset", "a", "1", "b", long}, {"mget", "a", long}, {"setrange", "a", "0", long},
		{"hget"}, {"ping", "a", "b"}, {"lpush", "list"}, {"hget", "hash", long},
	}
	for _, args := range rows {
		_, why := cmd.Check(args)
		if why == nil {
			t.Fatalf("%s is not refused", show(args))
		}
		was := p.states([]string{"a"})
		r, err := strs.Do(p.s, p.now, 0, args)
		if !reflect.DeepEqual(err, why) || !reflect.DeepEqual(r, api.Reply{}) {
			t.Errorf("P21.1: %s: %v, %v, want %v", show(args), r, err, why)
		}
		if is := p.states([]string{"a"}); !unchanged(was, is) {
			t.Errorf("R3: %s changed something", show(args))
		}
	}
}

// unchanged tells whether two lists of states are the same.
func unchanged(a, b map[string]state) bool {
	if len(a) != len(b) {
		return false
	}
	for key, s := range a {
		if !s.same(b[key]) {
			return false
		}
	}
	return true
}

// TestEachCommandWithEachCount asks with each number of words.
func TestEachCommandWithEachCount(t *testing.T) {
	p := fresh(t)
	for _, name := range sortedNames() {
		for n := 1; n <= 12; n++ {
			args := slices.Repeat([]string{"1"}, n)
			args[0] = name
			_, why := cmd.Check(args)
			_, err := p.do(args...)
			if code := fault.Code(why); code != api.OK && fault.Code(err) != code {
				t.Errorf("P21.1: %s with %d words: %v, want %v", name, n, err, why)
			} else if code == api.OK && fault.Code(err) == api.ErrArity {
				t.Errorf("P21.1: %s with %d words: %v", name, n, err)
			}
		}
	}
}

func TestNoWords(t *testing.T) {
	p := fresh(t)
	room := []string{"get", "a"}
	for _, args := range [][]string{nil, {}, room[:0], room[2:]} {
		for _, s := range []*space.Space{p.s, nil} {
			r, err := strs.Do(s, 0, 0, args)
			if fault.Code(err) != api.ErrUnknown || fault.Cmd(err) != "" || fault.Depth(err) != 1 || !reflect.DeepEqual(r, api.Reply{}) {
				t.Errorf("P21.1: of no words: %v, %v", r, err)
			}
		}
	}
}

// TestCommandsOfOtherGroups asks for each of them, as it would be right.
func TestCommandsOfOtherGroups(t *testing.T) {
	p := fresh(t)
	p.collect()
	p.text("1", "1")
	others := 0
	for _, name := range cmd.Names() {
		c, _ := cmd.Lookup(name)
		if c.Group == cmd.Strings {
			continue
		}
		others++
		for _, spelt := range []string{name, strings.ToUpper(name)} {
			for _, key := range []string{"1", "hash", "set", "list"} {
				args := slices.Repeat([]string{key}, c.Least)
				args[0] = spelt
				p.refused(api.ErrUnknown, args...)
			}
		}
	}
	if others != 81-18 {
		t.Errorf("%d commands of other groups", others)
	}
}

// TestNoSpace hands in none: what the chapter refuses comes first, then ErrForm, whatever the words ask for.
func TestNoSpace(t *testing.T) {
	for _, name := range sortedNames() {
		for _, args := range [][]string{of(name, "a"), of(name, "")} {
			r, err := strs.Do(nil, 5, 1, args)
			if fault.Code(err) != api.ErrForm || fault.Cmd(err) != name || fault.Depth(err) != 1 || !reflect.DeepEqual(r, api.Reply{}) {
				t.Errorf("R1: %s without a space: %v, %v", name, r, err)
			}
		}
		if _, err := strs.Do(nil, 5, 1, []string{name}); fault.Code(err) != api.ErrArity {
			t.Errorf("P21.1: %s alone without a space: %v", name, err)
		}
	}
	if _, err := strs.Do(nil, 5, 1, []string{"set", "a", "v", "foo"}); fault.Code(err) != api.ErrForm {
		t.Errorf("R1: set without a space: %v", err)
	}
	if _, err := strs.Do(nil, 5, 1, []string{"hget", "a", "f"}); fault.Code(err) != api.ErrUnknown {
		t.Errorf("P21.1: hget without a space: %v", err)
	}
}

// TestWhatErrorsSay asks errors for their codes in each way, and for what a client is told.
func TestWhatErrorsSay(t *testing.T) {
	p := fresh(t)
	p.collect()
	p.text("most", most)
	p.text("x", "x")
	p.text("long", longest)
	for _, x := range []struct {
		args []string
		why  api.Code
		told string
	}{
		{[]string{"GET", "hash"}, api.ErrType, "WRONGTYPE Operation against a key holding the wrong kind of value"},
		{[]string{"Set", "a", "v", "foo"}, api.ErrSyntax, "ERR syntax error"},
		{[]string{"SET", "a", "v", "EX", "0"}, api.ErrExpire, "ERR invalid expire time in 'set' command"},
		{[]string{"set", "a", "v", "PX", "x"}, api.ErrInt, "ERR value is not an integer or out of range"},
		{[]string{"INCR", "x"}, api.ErrInt, "ERR value is not an integer or out of range"},
		{[]string{"INCR", "most"}, api.ErrOver, "ERR increment or decrement would overflow"},
		{[]string{"DecrBy", "x", least}, api.ErrOver, "ERR increment or decrement would overflow"},
		{[]string{"APPEND", "long", "y"}, api.ErrLong, "ERR string exceeds maximum allowed size"},
		{[]string{"SETRANGE", "a", "-1", "y"}, api.ErrOffset, "ERR offset is out of range"},
		{[]string{"SETBIT", "a", "-1", "1"}, api.ErrBit, "ERR bit is not an integer or out of range"},
		{[]string{"BITCOUNT", "a", "1"}, api.ErrSyntax, "ERR syntax error"},
		{[]string{"HGET", "a", "f"}, api.ErrUnknown, "ERR unknown command 'hget'"},
		{[]string{"GET"}, api.ErrArity, "ERR wrong number of arguments for 'get' command"},
	} {
		p.refused(x.why, x.args...)
		_, err := p.do(x.args...)
		for other := api.OK; other <= api.ErrOffset+1; other++ {
			if errors.Is(err, other) != (other == x.why) {
				t.Errorf("P21.1: %s: %v and %v", show(x.args), err, other)
			}
		}
		if got := reply.Fail(fault.Cmd(err), err); got.S != x.told {
			t.Errorf("P21.1: %s: a client is told %q", show(x.args), got.S)
		}
		if err.Error() == "" {
			t.Errorf("R7: %s: says nothing", show(x.args))
		}
	}
}

// TestWhatIsRight has no error.
func TestWhatIsRight(t *testing.T) {
	for _, name := range sortedNames() {
		p := fresh(t)
		p.text("a", "1")
		if _, err := strs.Do(p.s, p.now, 0, of(name, "a")); err != nil || fault.Code(err) != api.OK {
			t.Errorf("P21.1: %s: %v", name, err)
		}
	}
}

// TestDrawMakesNoDifference asks with numbers at each bound.
func TestDrawMakesNoDifference(t *testing.T) {
	for _, name := range sortedNames() {
		want, _ := strs.Do(fresh(t).s, 5, 0, of(name, "a"))
		for _, draw := range []uint64{1, 7, 1 << 63, math.MaxUint64} {
			if got, err := strs.Do(fresh(t).s, 5, draw, of(name, "a")); err != nil || !reflect.DeepEqual(got, want) {
				t.Errorf("R4: %s with %d: %v, %v, want %v", name, draw, got, err, want)
			}
		}
	}
}

// TestTimesBeyondTheBound asks that calls end.
func TestTimesBeyondTheBound(t *testing.T) {
	for _, now := range []int64{math.MinInt64, -1, 1<<50 + 1, math.MaxInt64 - 1, math.MaxInt64} {
		s := space.New(api.Config{})
		s.Put("a", value.OfText("1"), now)
		for _, name := range sortedNames() {
			_, _ = strs.Do(s, now, 0, of(name, "a"))
		}
		for _, n := range []string{least, "-1", "0", "1", "1000", "9223372036854775", "9223372036854776", most} {
			for _, o := range []string{"EX", "PX"} {
				_, _ = strs.Do(s, now, 0, []string{"set", "a", "v", o, n})
			}
		}
	}
}
