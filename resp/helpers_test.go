package resp_test

import (
	"fmt"
	"math"
	"slices"
	"strings"
	"testing"

	"tallboy/api"
	"tallboy/reply"
	"tallboy/resp"
)

var (
	kinds = []int{api.Simple, api.Error, api.Int, api.Bulk, api.Null, api.NullArray, api.Array, api.MapReply, api.SetReply}
	// noKinds are numbers beside the Kinds, and such as are one of them in fewer bits.
	noKinds = []int{math.MinInt, -1 << 32, -1<<32 + 7, -256 + 3, -9, -4, -1, 0, 10, 11, 99, 256 + 9, 1<<16 + 4, 1<<32 + 2, 1<<32 + 8, math.MaxInt}

	withText  = []int{api.Simple, api.Error, api.Bulk}
	withParts = []int{api.Array, api.MapReply, api.SetReply}

	// notThree are versions that are written as 2 is, some of which are 3 in fewer bits.
	notThree = []int{2, 0, 1, 4, 5, 30, 33, 256 + 3, 1<<16 + 3, 1<<32 + 3, -1, -2, -3, -256 + 3, math.MinInt, math.MinInt + 3, math.MaxInt}

	numbers = []int64{math.MinInt64, math.MinInt64 + 1, -1 << 32, -257, -100, -10, -9, -2, -1, 0, 1, 2, 9, 10, 99, 100, 255, 256, 1 << 31, 1 << 32, math.MaxInt64 - 1, math.MaxInt64}

	// lineTexts have no byte of a line's end.
	lineTexts = []string{"", "OK", "a", " ", "  ", "ERR bad form", "+", "-1", "$-1", "*1", "_", "\x00", "\x0b\x0c", "\x8d\x8a", "\u00e9", "\u010d\u010a", "\xff\xfe", "\xc3", "\xe2\x82", strings.Repeat("x", 300)}

	// endTexts have such bytes: alone, together, first, last and in a row.
	endTexts = []string{"\r", "\n", "\r\n", "\n\r", "\ra", "\na", "a\r", "a\n", "a\rb", "a\nb", "a\r\nb", "\r\na", "a\r\n", "\r\r", "\n\n", "\r\r\n\n", "a\r\r\rb\n\n", "\r\n\r\n\r\n", "\r\n+OK\r\n", "\xc3\r\xa9", "\xff\n"}
)

var (
	a, b      = reply.Bulk("a"), reply.Bulk("b")
	one, two  = reply.Int(1), reply.Int(2)
	null      = api.Reply{Kind: api.Null}
	nullArray = api.Reply{Kind: api.NullArray}
)

// of has a Kind and parts.
func of(kind int, parts ...api.Reply) api.Reply {
	return api.Reply{Kind: kind, L: parts}
}

func array(parts ...api.Reply) api.Reply { return of(api.Array, parts...) }
func pairs(parts ...api.Reply) api.Reply { return of(api.MapReply, parts...) }
func set(parts ...api.Reply) api.Reply   { return of(api.SetReply, parts...) }

func simple(s string) api.Reply  { return api.Reply{Kind: api.Simple, S: s} }
func failure(s string) api.Reply { return api.Reply{Kind: api.Error, S: s} }

// allTexts are those of lines, others, and bytes of which the lengths have one digit and several.
func allTexts() []string {
	l := slices.Concat(lineTexts, endTexts)
	for _, n := range []int{1, 9, 10, 11, 99, 100, 999, 1000, 70000} {
		l = append(l, strings.Repeat("\r\n\x00\xff", n)[:n])
	}
	return l
}

// singles are replies without parts: of each Kind, with each text or number that it may have.
func singles() []api.Reply {
	l := []api.Reply{null, nullArray, array(), pairs(), set()}
	for _, n := range numbers {
		l = append(l, reply.Int(n))
	}
	for _, kind := range withText {
		for _, s := range allTexts() {
			l = append(l, api.Reply{Kind: kind, S: s})
		}
	}
	for _, kind := range noKinds {
		l = append(l, of(kind))
	}
	return l
}

// nests are replies with parts, in one another too.
func nests() []api.Reply {
	var l []api.Reply
	for _, kind := range withParts {
		l = append(l,
			of(kind, a), of(kind, a, b), of(kind, b, a), of(kind, a, one, b), of(kind, a, one, b, two), of(kind, null, nullArray), of(kind, nullArray), of(kind, of(99), of(0)),
			of(kind, simple("a\r\nb"), failure("\n")), of(kind, reply.Bulk("\r\n"), reply.Bulk("")), of(kind, reply.Int(math.MinInt64)))
		for _, inner := range withParts {
			l = append(l, of(kind, of(inner)), of(kind, of(inner, a)), of(kind, of(inner, b, a), one), of(kind, one, of(inner, a, b, null)), of(kind, of(inner, of(inner, a))))
			for _, last := range withParts {
				l = append(l, of(kind, of(inner, of(last, one, a, null), b), of(last)), of(kind, of(inner, null), of(last, nullArray), a))
			}
		}
		many := of(kind)
		for n := range 120 {
			many.L = append(many.L, reply.Int(int64(n)))
		}
		l = append(l, many, of(kind, many, many))
	}
	return l
}

// all are singles and nests.
func all() []api.Reply {
	return append(nests(), singles()...)
}

// filled is r with what its Kind does not have, in each part too: it means the same.
func filled(r api.Reply) api.Reply {
	if !slices.Contains(withText, r.Kind) {
		r.S = "x\r\n"
	}
	if r.Kind != api.Int {
		r.N = -5
	}
	if !slices.Contains(withParts, r.Kind) {
		r.L = []api.Reply{b, array(a)}
		return r
	}
	parts := r.L
	r.L = nil
	for _, p := range parts {
		r.L = append(r.L, filled(p))
	}
	return r
}

// nested is an innermost reply inside so many of a Kind, in the last place of each.
func nested(kind, deep int, inner api.Reply) api.Reply {
	for range deep {
		if kind == api.MapReply {
			inner = pairs(a, inner)
		} else {
			inner = of(kind, inner)
		}
	}
	return inner
}

// show tells all of a reply, what does not count too; nil and empty lists are the same.
func show(r api.Reply) string {
	var parts []string
	for _, p := range r.L {
		parts = append(parts, show(p))
	}
	return fmt.Sprintf("{%d %q %d [%s]}", r.Kind, r.S, r.N, strings.Join(parts, " "))
}

// cut is a text for messages: of great ones the beginning alone.
func cut(s string) string {
	if len(s) > 300 {
		return s[:300] + ".."
	}
	return s
}

// brief is show for messages.
func brief(r api.Reply) string {
	return cut(show(r))
}

// lines has a line's end for each bar.
func lines(s string) string {
	return strings.ReplaceAll(s, "|", "\r\n")
}

// clone has memory of its own.
func clone(r api.Reply) api.Reply {
	parts := r.L
	r.L = nil
	for _, p := range parts {
		r.L = append(r.L, clone(p))
	}
	return r
}

// wantEncode asks twice, and of one that is filled with what does not count.
func wantEncode(t *testing.T, r api.Reply, version int, want string) {
	t.Helper()
	for _, x := range []api.Reply{r, r, filled(r)} {
		if got := string(resp.Encode(x, version)); got != want {
			t.Errorf("P18.1: Encode(%s, %d): %q, want %q", brief(x), version, cut(got), cut(want))
			return
		}
	}
}

// wantBoth asks for version 2, for all that are as it, and for version 3.
func wantBoth(t *testing.T, r api.Reply, second, third string) {
	t.Helper()
	for _, version := range notThree {
		wantEncode(t, r, version, second)
	}
	wantEncode(t, r, 3, third)
}

// wantDecode asks for a reply that takes so many bytes.
func wantDecode(t *testing.T, from string, want api.Reply, size int) {
	t.Helper()
	for range 2 {
		got, n, why := resp.Decode([]byte(from))
		if why != api.OK || n != size || show(got) != show(want) {
			t.Errorf("P18.2: Decode(%q): %s, %d, %v, want %s, %d", cut(from), brief(got), n, why, brief(want), size)
			return
		}
	}
}

// wantWhole asks for a reply that all bytes are of, then with others behind them, and refusals of each beginning (of great ones of some).
func wantWhole(t *testing.T, from string, want api.Reply) {
	t.Helper()
	wantDecode(t, from, want, len(from))
	for _, more := range []string{"\r", "\n", "\r\n", "x", "+OK\r\n", "\x00", "$", "*1\r\n", from} {
		wantDecode(t, from+more, want, len(from))
	}
	step := 1 + len(from)/300
	for n := 0; n < len(from); n += step {
		wantNoDecode(t, from[:n])
	}
	wantNoDecode(t, from[:len(from)-1])
}

// wantNoDecode asks for a refusal, and nothing beside it.
func wantNoDecode(t *testing.T, from string) {
	t.Helper()
	for range 2 {
		got, n, why := resp.Decode([]byte(from))
		if why != api.ErrForm || n != 0 || show(got) != show(api.Reply{}) {
			t.Errorf("P18.2: Decode(%q): %s, %d, %v, want nothing and ErrForm", cut(from), brief(got), n, why)
			return
		}
	}
}
