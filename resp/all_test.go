package resp_test

import (
	"strings"
	"testing"

	"tallboy/api"
	"tallboy/reply"
	"tallboy/resp"
)

// wantAll asks twice for replies and where they end.
func wantAll(t *testing.T, from string, want []api.Reply, end int) {
	t.Helper()
	for range 2 {
		l, at := resp.All([]byte(from))
		if at != end || show(array(l...)) != show(array(want...)) {
			t.Errorf("P18.2: All(%q): %s, %d, want %s, %d", cut(from), brief(array(l...)), at, brief(array(want...)), end)
			return
		}
	}
}

func TestAllOfNothing(t *testing.T) {
	if l, at := resp.All(nil); len(l) != 0 || at != 0 {
		t.Errorf("P18.2: All(nil): %v, %d", l, at)
	}
	for _, from := range []string{"", "|", "x", "\r", "+", "+OK", "+OK\r", "*1|", "$1|a", "x+OK|", "*1|x|+OK|", "_x|_|", ":01|:1|"} {
		wantAll(t, lines(from), nil, 0)
	}
}

func TestAllOfSome(t *testing.T) {
	rests := []string{"", "x", "\r", "\n", "|", "+", "+OK", "+OK\r", "+OK\n", "$1|a", "$-2|", "*1|", "*2|:1|", "%1|:1|", "%-1|", "_x|", ":01|", "$0|", "*2|_|$-1|", "x|+OK|", "|+OK|", "*1|x|+OK|", strings.Repeat("*1|", 33) + ":1|", strings.Repeat("*1|", 33) + ":1|+OK|"}
	for _, r := range all() {
		from := string(resp.Encode(r, 3))
		for _, rest := range rests {
			rest = lines(rest)
			wantAll(t, from+rest, []api.Reply{told(r, true)}, len(from))
			wantAll(t, from+from+rest, []api.Reply{told(r, true), told(r, true)}, 2*len(from))
			both := from + string(resp.Encode(r, 2))
			wantAll(t, both+rest, []api.Reply{told(r, true), told(r, false)}, len(both))
		}
	}
}

func TestAllOfMany(t *testing.T) {
	from := ""
	var want []api.Reply
	for i, r := range all() {
		if len(r.S) > 1000 {
			continue
		}
		version := 2 + i%2
		from += string(resp.Encode(r, version))
		want = append(want, told(r, version == 3))
	}
	wantAll(t, from, want, len(from))
	wantAll(t, from+"x"+from, want, len(from))
	// Each cut leaves whole ones, and where they end.
	for n := 0; n < len(from); n += 23 {
		l, at := resp.All([]byte(from[:n]))
		_, size, why := resp.Decode([]byte(from[at:]))
		if at > n || why != api.OK || at+size <= n || show(array(l...)) != show(array(want[:len(l)]...)) {
			t.Fatalf("P18.2: All of %d bytes: %d replies, %d", n, len(l), at)
		}
	}
}

func TestAllOfVeryMany(t *testing.T) {
	const n = 200000
	l, at := resp.All([]byte(strings.Repeat("+a\r\n*1\r\n$1\r\nb\r\n", n) + "+a"))
	if len(l) != 2*n || at != 15*n {
		t.Fatalf("P18.2: All: %d, %d", len(l), at)
	}
	for i, r := range l {
		if want := []api.Reply{simple("a"), array(b)}[i%2]; !reply.Same(r, want) {
			t.Fatalf("P18.2: All: reply %d is %s", i, show(r))
		}
	}
}
