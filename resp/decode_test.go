package resp_test

import (
	"math"
	"strconv"
	"strings"
	"testing"

	"tallboy/api"
	"tallboy/reply"
	"tallboy/resp"
)

func TestDecodeReplies(t *testing.T) {
	for from, want := range map[string]api.Reply{
		"+OK|":                       reply.OK(),
		"+|":                         simple(""),
		"-|":                         failure(""),
		"-ERR bad form|":             failure("ERR bad form"),
		"+ a |":                      simple(" a "),
		"+$-1|":                      simple("$-1"),
		"-_|":                        failure("_"),
		":0|":                        reply.Int(0),
		":-1|":                       reply.Int(-1),
		":9223372036854775807|":      reply.Int(math.MaxInt64),
		":-9223372036854775808|":     reply.Int(math.MinInt64),
		"$0||":                       reply.Bulk(""),
		"$1|a|":                      a,
		"$2|||":                      reply.Bulk("\r\n"),
		"$1|\r|":                     reply.Bulk("\r"),
		"$1|\n|":                     reply.Bulk("\n"),
		"$1|\x00|":                   reply.Bulk("\x00"),
		"$1|\xff|":                   reply.Bulk("\xff"),
		"$10|0123456789|":            reply.Bulk("0123456789"),
		"$5|$1|a|":                   reply.Bulk("$1\r\na"),
		"$-1|":                       null,
		"_|":                         null,
		"*-1|":                       nullArray,
		"*0|":                        array(),
		"%0|":                        pairs(),
		"~0|":                        set(),
		"*1|$1|a|":                   array(a),
		"*3|:1|$1|a|:2|":             array(one, a, two),
		"%1|$1|a|:1|":                pairs(a, one),
		"%2|$1|a|:1|$1|b|:2|":        pairs(a, one, b, two),
		"~1|:1|":                     set(one),
		"~2|$1|a|$1|a|":              set(a, a),
		"*2|$-1|*-1|":                array(null, nullArray),
		"*2|_|_|":                    array(null, null),
		"~2|%1|_|:1|*1|_|":           set(pairs(null, one), array(null)),
		"*1|*2|*0|*1|$-1|":           array(array(array(), array(null))),
		"%1|%0|~1|%1|*0|-E|":         pairs(pairs(), set(pairs(array(), failure("E")))),
		"*10|+|+|+|+|+|+|+|+|+|+|":   array(simple(""), simple(""), simple(""), simple(""), simple(""), simple(""), simple(""), simple(""), simple(""), simple("")),
		"*4|+OK|-E x|:5|$3|a b|":     array(reply.OK(), failure("E x"), reply.Int(5), reply.Bulk("a b")),
		"*3|*1|:1|*2|:1|:2|*1|$1|b|": array(array(one), array(one, two), array(b)),
	} {
		wantWhole(t, lines(from), want)
	}
}

func TestDecodeOfNoReply(t *testing.T) {
	for _, from := range []string{
		// Signs that open none, and no sign.
		"|", "x|", "OK|", "#t|", ",1|", "(1|", "!1|a|", "=1|a|", ">1|:1|", "\x00|", "\xff|", " +OK|", "\n+OK|", "|+OK|", "\r+OK|", "0|", "1|", "PING|",
		// Lines that do not end, or end otherwise.
		"+", "-", ":", "$", "*", "%", "~", "_", "+OK", "+OK\r", "+OK\n", "+OK\n\r", "+OK\r\r\n", "+OK\n|", "+a\rb|", "+a\nb|", "+\r|", "+\n|", "-a\rb|", "-a\nb|", "-a\r\r|", "+a\r", "+a\rx\n", "-a\n", ":1", ":1\r", ":1\n", ":1\n|", ":1\r\r\n", "$1\r", "$1\na\n", "$1|a\r", "$1|a\n", "$1|a\n\r", "$1|a\rx", "$0|\r", "$0|", "$-1\r", "*-1\n", "*0\r", "%0\n", "~0\r", "_\r", "_\n", "_\n\r",
		// Numbers that are never written so.
		":|", ":+1|", ":+0|", ":-0|", ":00|", ":01|", ":-01|", ":007|", ": 1|", ":1 |", ":-|", ":--1|", ":- 1|", ":1.0|", ":1e1|", ":0x1|", ":1_0|", ":a|", ":9223372036854775808|", ":-9223372036854775809|", ":18446744073709551616|", ":99999999999999999999999|", ":\u0661|", ":1\x00|",
		"$|", "$+1|a|", "$01|a|", "$ 1|a|", "$1 |a|", "$-0||", "$00||", "$a|", "$1.0|a|",
		"*|", "*+1|:1|", "*01|:1|", "* 1|:1|", "*1 |:1|", "*-0|", "*00|", "*a|",
		"%|", "%+1|:1|:1|", "%01|:1|:1|", "%-0|", "%00|", "~|", "~+1|:1|", "~01|:1|", "~-0|", "~00|",
		// Lengths and counts below what there is.
		"$-2|", "$-10|", "$-11|", "$-9223372036854775808|", "*-2|", "*-10|", "*-9223372036854775808|", "%-1|", "%-2|", "%-9223372036854775808|", "~-1|", "~-2|", "~-9223372036854775808|", "$-01|", "*-01|", "$-1|"[:3], "$--1|",
		// Lengths and counts beyond what follows.
		"$1|", "$2|a|", "$3|a|", "$4|a|", "$1||", "$2||", "$9|a|", "$9223372036854775807|a|", "$9223372036854775806|a|", "$9223372036854775805|a|", "$4294967297|a|", "$18446744073709551617|a|", "$9223372036854775808|",
		"*1|", "*2|:1|", "*3|:1|:2|", "*1||", "*4294967297|:1|", "*9223372036854775807|:1|", "*9223372036854775808|", "*99999999999|", "*18446744073709551617|:1|",
		"%1|", "%1|:1|", "%2|:1|:2|", "%2|:1|:2|:3|", "%9223372036854775807|", "%4611686018427387904|", "%4611686018427387905|:1|:2|", "%2147483649|:1|:2|", "%9223372036854775808|:1|", "~1|", "~2|:1|", "~9223372036854775807|:1|",
		// Texts that go on.
		"$0|a|", "$1|ab|", "$2|abc|", "$1|a\rb|",
		// A null with something in it.
		"_x|", "_0|", "_-1|", "_ |", "__|", "_\r|", "_\n|",
		// Parts that are none.
		"*1|x|", "*1|+a", "*2|:1|x|", "*2|:1||", "~1|:01|", "%1|:1|$-2|", "*1|*1|", "*1|*1|x|", "*1|$1|ab|", "~2|~1|:1|", "%1|%1|:1|:2|", "*1|_x|",
	} {
		wantNoDecode(t, lines(from))
	}
}

func TestDecodeEachSign(t *testing.T) {
	for x := range 256 {
		for _, rest := range []string{"|", "0|", "0||", "1|:1|", "-1|", "-2|", "a|", "1|:1|:1|", "1|a|"} {
			from := string([]byte{byte(x)}) + lines(rest)
			want, n := readBytes(from)
			if n > 0 {
				wantDecode(t, from, want, n)
			} else {
				wantNoDecode(t, from)
			}
			if n > 0 && !strings.ContainsRune("+-:$*%~_", rune(x)) {
				t.Errorf("P18.2: the byte %d opens a reply", x)
			}
		}
	}
}

// What one Encode writes is of one version: what both write, and either what 2 alone does or what 3 alone does.
func TestDecodeOfBothVersionsInOne(t *testing.T) {
	second := []string{"$-1|", "*-1|", "*1|$-1|", "*2|:1|*-1|"}
	third := []string{"_|", "%0|", "~0|", "%1|:1|:2|", "~1|:1|", "*1|_|", "*2|:1|*1|~0|"}
	common := []string{"+a|", "-a|", ":1|", "$0||", "$3|_||", "*0|", "*1|*1|:1|", "$5|$-1||"}
	for _, x := range second {
		for _, y := range third {
			for _, from := range []string{"*2|" + x + y, "*2|" + y + x, "*2|*1|" + x + "*1|" + y, "*3|" + y + ":1|*1|" + x, "%1|" + x + ":1|", "%1|:1|" + x, "~1|" + x, "%1|:1|*1|" + x, "~1|*1|*1|" + x} {
				wantNoDecode(t, lines(from))
			}
			// Replies that stand one behind the other may be of unlike versions.
			for _, from := range []string{x + y, y + x} {
				if l, at := resp.All([]byte(lines(from))); len(l) != 2 || at != len(lines(from)) {
					t.Errorf("P18.2: All(%q): %d, %d", from, len(l), at)
				}
			}
		}
	}
	for _, group := range [][]string{second, third} {
		for _, x := range group {
			for _, y := range group {
				for _, z := range common {
					for _, from := range []string{"*3|" + x + y + z, "*3|" + z + x + y, "*2|*1|" + x + "*2|" + z + y} {
						if want, n := readBytes(lines(from)); n == 0 {
							t.Fatalf("%q was taken for none", from)
						} else {
							wantDecode(t, lines(from), want, n)
						}
					}
				}
			}
		}
	}
}

func TestDecodeDepth(t *testing.T) {
	inner := map[string]api.Reply{"$1|a|": a, ":1|": one, "+OK|": reply.OK(), "*0|": array()}
	for x, r := range inner {
		for n := range 70 {
			for sign, kind := range map[string]int{"*1|": api.Array, "~1|": api.SetReply, "%1|$1|a|": api.MapReply} {
				want := nested(kind, n, r)
				from := lines(strings.Repeat(sign, n) + x)
				if reply.Depth(want) <= 33 {
					wantDecode(t, from, want, len(from))
				} else {
					wantNoDecode(t, from)
				}
				if string(resp.Encode(want, 3)) != from {
					t.Fatalf("P18.1: %d deep: not as meant", n)
				}
			}
		}
	}
	wantNoDecode(t, lines(strings.Repeat("*1|", 1<<16)+":1|"))
	wantNoDecode(t, lines(strings.Repeat("*1|", 1<<20)))
}

func TestDecodeDepthOfAnyPlace(t *testing.T) {
	for n := 28; n < 38; n++ {
		deep := nested(api.Array, n, one)
		for _, r := range []api.Reply{array(deep, a), array(a, deep, a), set(a, deep), pairs(deep, a), pairs(a, deep), array(array(a), array(a, deep)), array(nested(api.Array, 20, a), deep, nested(api.SetReply, 25, a))} {
			from := string(resp.Encode(r, 3))
			if reply.Depth(r) <= 33 {
				wantDecode(t, from, r, len(from))
			} else {
				wantNoDecode(t, from)
			}
		}
	}
	// What is left out does not make it deeper.
	r := array(pairs(a, one, nested(api.Array, 60, one)))
	wantDecode(t, string(resp.Encode(r, 3)), array(pairs(a, one)), len(lines("*1|%1|$1|a|:1|")))
	wantNoDecode(t, string(resp.Encode(r, 2)))
	// The depth of one list is not that of the next one.
	many := array()
	for range 100 {
		many.L = append(many.L, nested(api.Array, 31, one))
	}
	from := string(resp.Encode(many, 2))
	wantDecode(t, from, many, len(from))
}

// told is a second reading of P18.3, and of what Encode of each version does to others.
func told(r api.Reply, third bool) api.Reply {
	switch r.Kind {
	case api.Simple, api.Error:
		return api.Reply{Kind: r.Kind, S: strings.NewReplacer("\r", " ", "\n", " ").Replace(r.S)}
	case api.Int:
		return api.Reply{Kind: r.Kind, N: r.N}
	case api.Bulk:
		return api.Reply{Kind: r.Kind, S: r.S}
	case api.NullArray:
		if !third {
			return nullArray
		}
	case api.Array, api.MapReply, api.SetReply:
		l, out := r.L, api.Reply{Kind: r.Kind}
		if !third {
			out.Kind = api.Array
		} else if r.Kind == api.MapReply {
			l = l[:len(l)/2*2]
		}
		for _, p := range l {
			out.L = append(out.L, told(p, third))
		}
		return out
	}
	return null
}

func TestDecodeOfEncode(t *testing.T) {
	for _, x := range all() {
		for _, r := range []api.Reply{x, filled(x), array(x, a), set(one, x), pairs(a, x, b)} {
			wantWhole(t, string(resp.Encode(r, 3)), told(r, true))
			wantWhole(t, string(resp.Encode(r, 2)), told(r, false))
		}
	}
}

func TestDecodeOfEncodeIsTheReply(t *testing.T) {
	for _, s := range lineTexts {
		wantDecode(t, string(resp.Encode(simple(s), 3)), simple(s), len(s)+3)
		wantDecode(t, string(resp.Encode(failure(s), 3)), failure(s), len(s)+3)
	}
	for _, s := range allTexts() {
		wantDecode(t, string(resp.Encode(reply.Bulk(s), 3)), reply.Bulk(s), len(s)+len(strconv.Itoa(len(s)))+5)
	}
	for _, r := range []api.Reply{null, array(), pairs(), set(), array(null, a), pairs(a, set(b, one), null, array()), set(pairs(one, two), failure("E"), simple("s"))} {
		from := string(resp.Encode(r, 3))
		wantDecode(t, from, r, len(from))
		if got, _, _ := resp.Decode([]byte(from)); !reply.Same(got, r) {
			t.Errorf("P18.3: %s, want %s", brief(got), brief(r))
		}
	}
	wantDecode(t, string(resp.Encode(nullArray, 3)), null, 3)
	wantDecode(t, string(resp.Encode(array(nullArray, a), 3)), array(null, a), 14)
}
