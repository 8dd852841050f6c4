package cmd_test

import (
	"strings"
	"testing"

	"tallboy/cmd"
)

func TestTheRun(t *testing.T) {
	if c, ok := cmd.Lookup("GeT"); !ok || c.Name != "get" || c.Least != 2 || c.Most != 2 {
		t.Errorf("P20.1: Lookup(GeT): %+v, %v", c, ok)
	}
}

// TestEachMix asks for each name with each of its letters small or great.
func TestEachMix(t *testing.T) {
	for _, want := range rows(t) {
		for mix := range 1 << len(want.Name) {
			b := []byte(want.Name)
			for i := range b {
				if mix>>i&1 == 1 {
					b[i] -= 'a' - 'A'
				}
			}
			if c, ok := cmd.Lookup(string(b)); !ok || c != want {
				t.Fatalf("P20.1: Lookup(%s): %+v, %v, want %+v", b, c, ok, want)
			}
		}
	}
}

func TestLookupOfNoCommand(t *testing.T) {
	for _, name := range []string{"", " ", "\x00", "\r\n", "nosuch", "g", "ge", "gets", "get\x00", "\x00get", "get set", "get,set", "get!", "get 2", "|", "1", "2", "-1", "GE\u0422", "\u212aEYS", "\u212aeys", "\u017fet", "\u017fcan", "p\u0131ng", "P\u0130NG", "G\u00c9T", "\xff", "\xe7\xe5\xf4", "\xc7\xc5\xd4", "spoilt", "strs", "hashes", "sets", "lists", "conn", "command", "info", "select", "zadd", "setex", "hmset", "lpushx", "sinterstore", "expireat", "unlink", "flushdb", "reset", strings.Repeat("get", 22), strings.Repeat("x", 1<<20)} {
		for range 2 {
			if c, ok := cmd.Lookup(name); ok || c != (cmd.Command{}) {
				t.Errorf("P20.1: Lookup(%q): %+v, %v", cut(name), c, ok)
			}
		}
	}
}

func TestLookupWithBlanksAround(t *testing.T) {
	all := byName(t)
	for name := range all {
		for _, blank := range []string{" ", "\t", "\n", "\r", "\r\n", "\x00", "\v", "\f", "\u00a0", "\"", "'"} {
			for _, odd := range []string{blank + name, name + blank, blank + name + blank, name[:1] + blank + name[1:]} {
				if lookedUp(t, all, odd) || lookedUp(t, all, strings.ToUpper(odd)) {
					t.Fatalf("P20.1: Lookup(%q)", odd)
				}
			}
		}
	}
}

// TestLookupOfNeighbours asks for what is one byte away from each name: without one, with one more at each place, with another one at each place.
func TestLookupOfNeighbours(t *testing.T) {
	all := byName(t)
	found := 0
	ask := func(name string) {
		if lookedUp(t, all, name) {
			found++
		}
	}
	for name := range all {
		for at := range len(name) + 1 {
			if at < len(name) {
				ask(name[:at] + name[at+1:])
			}
			for x := range 256 {
				one := string([]byte{byte(x)})
				ask(name[:at] + one + name[at:])
				if at < len(name) {
					ask(name[:at] + one + name[at+1:])
				}
			}
		}
		if t.Failed() {
			return
		}
	}
	// Some are other commands: get and set, get and hget.
	if found < 1000 {
		t.Errorf("too few were found: %d", found)
	}
}

// TestLookupOfEachShortName asks for all names of up to three bytes that letters and their neighbours make.
func TestLookupOfEachShortName(t *testing.T) {
	all := byName(t)
	const bytes = "abcdefghijklmnopqrstuvwxyzDELGTSI@[`{ \x00\x80\xe4"
	found := 0
	var row func(name string, left int)
	row = func(name string, left int) {
		if lookedUp(t, all, name) {
			found++
		}
		for i := 0; i < len(bytes) && left > 0; i++ {
			row(name+bytes[i:i+1], left-1)
		}
	}
	row("", 3)
	// get, set, del and ttl, by eight, eight, eight and eight spellings.
	if found != 32 {
		t.Errorf("P20.1: %d short names", found)
	}
}
