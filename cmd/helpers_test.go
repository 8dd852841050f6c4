package cmd_test

import (
	"errors"
	"fmt"
	"slices"
	"strconv"
	"strings"
	"testing"

	"tallboy/api"
	"tallboy/cmd"
	"tallboy/fault"
)

// chapter is the chapter's table, letter for letter.
const chapter = `
| 1 | get! 2, set 3 to 8, setnx 3, getset 3, getdel 2, append 3, strlen! 2, incr 2, decr 2, incrby 3, decrby 3, getrange! 4, setrange 4, getbit! 3, setbit 4, bitcount! 2 to 4, mget! 2+, mset 3+ |
| 2 | hset 4+, hsetnx 4, hget! 3, hmget! 3+, hdel 3+, hexists! 3, hlen! 2, hkeys! 2, hvals! 2, hgetall! 2, hincrby 4, hstrlen! 3, hscan! 3 to 7 |
| 3 | sadd 3+, srem 3+, sismember! 3, scard! 2, smembers! 2, smove 4, sinter! 2+, sunion! 2+, sdiff! 2+, spop 2, srandmember! 2, sscan! 3 to 7 |
| 4 | lpush 3+, rpush 3+, lpop 2, rpop 2, llen! 2, lrange! 4, lindex! 3, lset 4, linsert 5, lrem 4, ltrim 4, rpoplpush 3 |
| 5 | del 2+, exists! 2+, type! 2, expire 3, pexpire 3, ttl! 2, pttl! 2, persist 2, rename 3, renamenx 3, copy 3, keys! 2, scan! 2 to 8, dbsize! 1, flushall 1, randomkey! 1, object! 3 |
| 6 | ping! 1 to 2, echo! 2, hello! 1 to 2, multi! 1, exec! 1, discard! 1, watch! 2+, unwatch! 1, quit! 1 |
`

// rows reads the chapter's table.
func rows(t *testing.T) []cmd.Command {
	t.Helper()
	var l []cmd.Command
	for line := range strings.Lines(strings.TrimSpace(chapter)) {
		parts := strings.Split(line, "|")
		group, err := strconv.Atoi(strings.TrimSpace(parts[1]))
		if err != nil {
			t.Fatal(err)
		}
		for row := range strings.SplitSeq(parts[2], ",") {
			l = append(l, readRow(t, row, group))
		}
	}
	return l
}

// readRow reads a name, its sign, and how many words.
func readRow(t *testing.T, row string, group int) cmd.Command {
	t.Helper()
	name, words, _ := strings.Cut(strings.TrimSpace(row), " ")
	least, most, between := strings.Cut(words, " to ")
	switch {
	case strings.HasSuffix(words, "+"):
		least = strings.TrimSuffix(words, "+")
		most = strconv.Itoa(api.MaxArgs)
	case !between:
		most = least
	}
	c := cmd.Command{Name: strings.TrimSuffix(name, "!"), Write: !strings.HasSuffix(name, "!"), Group: group}
	var wrong, bad error
	c.Least, wrong = strconv.Atoi(least)
	c.Most, bad = strconv.Atoi(most)
	if wrong != nil || bad != nil {
		t.Fatalf("no row: %q", row)
	}
	return c
}

// byName has the chapter's rows under their names.
func byName(t *testing.T) map[string]cmd.Command {
	t.Helper()
	m := map[string]cmd.Command{}
	for _, c := range rows(t) {
		m[c.Name] = c
	}
	return m
}

// small is a second reading of Lower, by the two alphabets.
func small(s string) string {
	const great, little = "ABCDEFGHIJKLMNOPQRSTUVWXYZ", "abcdefghijklmnopqrstuvwxyz"
	var b strings.Builder
	for i := range len(s) {
		if at := strings.Index(great, s[i:i+1]); at >= 0 {
			b.WriteByte(little[at])
		} else {
			b.WriteByte(s[i])
		}
	}
	return b.String()
}

// mixed has each second letter great, beginning with the first or the second one.
func mixed(s string, from int) string {
	b := []byte(s)
	for i := from; i < len(b); i += 2 {
		b[i] = strings.ToUpper(string(b[i : i+1]))[0]
	}
	return string(b)
}

// spellings are a name in letters of several sizes.
func spellings(name string) []string {
	return []string{name, strings.ToUpper(name), mixed(name, 0), mixed(name, 1), strings.ToUpper(name[:1]) + name[1:]}
}

// words is a request of n words, of which the others say nothing.
func words(name string, n int) []string {
	l := make([]string, n)
	for i := range l {
		l[i] = "x"
	}
	l[0] = name
	return l
}

// fits tells whether a command takes so many words, counted out of the chapter's words.
func fits(c cmd.Command, n int) bool {
	if n < c.Least || n > c.Most {
		return false
	}
	switch c.Name {
	case "mset":
		return (n-1)/2*2 == n-1
	case "hset":
		return (n-2)/2*2 == n-2
	}
	return true
}

// cut is a text for messages: of great ones the beginning alone.
func cut(s string) string {
	if len(s) > 100 {
		return s[:100] + ".."
	}
	return s
}

// show tells a request for messages.
func show(args []string) string {
	return cut(fmt.Sprintf("%d words: %.80q", len(args), args[:min(len(args), 4)]))
}

// wantTaken asks for a command, and no error.
func wantTaken(t *testing.T, args []string, want cmd.Command) {
	t.Helper()
	for range 2 {
		if c, err := cmd.Check(args); err != nil || c != want {
			t.Errorf("P20.2: Check of %s: %+v, %v, want %+v", show(args), c, err, want)
			return
		}
	}
}

// wantRefused asks for one fault of a name and a code, and nothing beside it.
func wantRefused(t *testing.T, args []string, name string, why api.Code) {
	t.Helper()
	for range 2 {
		c, err := cmd.Check(args)
		if c != (cmd.Command{}) {
			t.Errorf("R3: Check of %s: %+v beside %q", show(args), c, err)
			return
		}
		f, ok := err.(*fault.Fault)
		if !ok || f == nil || f.Cmd != name || f.Err != error(why) {
			t.Errorf("P20.2: Check of %s: %q, want %q, %v", show(args), err, name, why)
			return
		}
	}
}

// wantOnly asks an error for its code in each way, and for each other code.
func wantOnly(t *testing.T, err error, why api.Code) {
	t.Helper()
	var c api.Code
	var f *fault.Fault
	if !errors.As(err, &c) || c != why || !errors.As(err, &f) || fault.Code(err) != why || fault.Depth(err) != 1 || errors.Unwrap(err) != error(why) {
		t.Errorf("P20.2: %v is not %v", err, why)
	}
	for other := api.OK; other <= api.ErrOffset+1; other++ {
		if errors.Is(err, other) != (other == why) {
			t.Errorf("P20.2: %v and %v", err, other)
		}
	}
}

// lookedUp asks by a name as the chapter has it: what small letters find, or nothing.
func lookedUp(t *testing.T, all map[string]cmd.Command, name string) bool {
	t.Helper()
	want, there := all[small(name)]
	c, ok := cmd.Lookup(name)
	if ok != there || c != want {
		t.Errorf("P20.1: Lookup(%q): %+v, %v, want %+v, %v", cut(name), c, ok, want, there)
	}
	return ok
}

// spoil writes over a list and its spare room.
func spoil(l []string) {
	for i := range l[:cap(l)] {
		l[:cap(l)][i] = "spoilt"
	}
}

// sortedNames are the names of rows, in rising order of bytes.
func sortedNames(l []cmd.Command) []string {
	var names []string
	for _, c := range l {
		names = append(names, c.Name)
	}
	slices.SortFunc(names, strings.Compare)
	return names
}
