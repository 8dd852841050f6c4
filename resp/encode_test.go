package resp_test

import (
	"strconv"
	"strings"
	"testing"

	"tallboy/api"
	"tallboy/reply"
	"tallboy/resp"
)

func TestRunsAndExamples(t *testing.T) {
	wantEncode(t, reply.Bulk("ab"), 2, "$2\r\nab\r\n")
	wantEncode(t, null, 3, "_\r\n")
	wantNoDecode(t, "")
	if r, n, why := resp.Decode(nil); why != api.ErrForm || n != 0 || show(r) != show(api.Reply{}) {
		t.Errorf("P18.2: Decode(nil): %s, %d, %v", show(r), n, why)
	}
}

func TestEncodeKinds(t *testing.T) {
	for _, x := range []struct {
		r             api.Reply
		second, third string
	}{
		{reply.OK(), "+OK|", "+OK|"},
		{failure("ERR bad form"), "-ERR bad form|", "-ERR bad form|"},
		{reply.Int(0), ":0|", ":0|"},
		{reply.Int(-12), ":-12|", ":-12|"},
		{a, "$1|a|", "$1|a|"},
		{reply.Bulk(""), "$0||", "$0||"},
		{null, "$-1|", "_|"},
		{nullArray, "*-1|", "_|"},
		{array(), "*0|", "*0|"},
		{array(a), "*1|$1|a|", "*1|$1|a|"},
		{array(one, a, two), "*3|:1|$1|a|:2|", "*3|:1|$1|a|:2|"},
		{pairs(), "*0|", "%0|"},
		{pairs(a, one), "*2|$1|a|:1|", "%1|$1|a|:1|"},
		{pairs(a, one, b, two), "*4|$1|a|:1|$1|b|:2|", "%2|$1|a|:1|$1|b|:2|"},
		{set(), "*0|", "~0|"},
		{set(a), "*1|$1|a|", "~1|$1|a|"},
		{set(b, a, b), "*3|$1|b|$1|a|$1|b|", "~3|$1|b|$1|a|$1|b|"},
		{array(simple("a"), failure("b")), "*2|+a|-b|", "*2|+a|-b|"},
		{array(null, nullArray), "*2|$-1|*-1|", "*2|_|_|"},
		{set(null, nullArray), "*2|$-1|*-1|", "~2|_|_|"},
		{pairs(nullArray, null), "*2|*-1|$-1|", "%1|_|_|"},
	} {
		wantBoth(t, x.r, lines(x.second), lines(x.third))
	}
}

func TestEncodeOtherKinds(t *testing.T) {
	for _, kind := range noKinds {
		for _, r := range []api.Reply{{Kind: kind}, {Kind: kind, S: "a", N: 7, L: []api.Reply{a, one}}} {
			wantBoth(t, r, "$-1\r\n", "_\r\n")
			wantBoth(t, array(r, a), lines("*2|$-1|$1|a|"), lines("*2|_|$1|a|"))
			wantBoth(t, set(r), lines("*1|$-1|"), lines("~1|_|"))
			wantBoth(t, pairs(r, r), lines("*2|$-1|$-1|"), lines("%1|_|_|"))
		}
	}
}

func TestEncodeLines(t *testing.T) {
	for _, s := range lineTexts {
		wantBoth(t, simple(s), "+"+s+"\r\n", "+"+s+"\r\n")
		wantBoth(t, failure(s), "-"+s+"\r\n", "-"+s+"\r\n")
	}
	for _, s := range endTexts {
		want := []byte(s)
		for i, x := range want {
			if x == 13 || x == 10 {
				want[i] = 32
			}
		}
		wantBoth(t, simple(s), "+"+string(want)+"\r\n", "+"+string(want)+"\r\n")
		wantBoth(t, failure(s), "-"+string(want)+"\r\n", "-"+string(want)+"\r\n")
		wantBoth(t, array(simple(s)), "*1\r\n+"+string(want)+"\r\n", "*1\r\n+"+string(want)+"\r\n")
	}
	wantEncode(t, simple("\r"), 2, "+ \r\n")
	wantEncode(t, failure("\r\nE\n\nx\r"), 3, "-  E  x \r\n")
	for x := range 256 {
		s := string([]byte{'a', byte(x), 'b'})
		if x == 13 || x == 10 {
			continue
		}
		wantBoth(t, simple(s), "+"+s+"\r\n", "+"+s+"\r\n")
		wantBoth(t, failure(s), "-"+s+"\r\n", "-"+s+"\r\n")
	}
}

func TestEncodeNumbers(t *testing.T) {
	for _, n := range numbers {
		want := ":" + strconv.FormatInt(n, 10) + "\r\n"
		wantBoth(t, reply.Int(n), want, want)
	}
	wantEncode(t, reply.Int(-9223372036854775808), 2, ":-9223372036854775808\r\n")
	wantEncode(t, reply.Int(9223372036854775807), 3, ":9223372036854775807\r\n")
}

func TestEncodeBulks(t *testing.T) {
	for _, s := range allTexts() {
		want := "$" + strconv.Itoa(len(s)) + "\r\n" + s + "\r\n"
		wantBoth(t, reply.Bulk(s), want, want)
	}
	for n := range 1100 {
		s := strings.Repeat("\r\n\x00\xff", n)[:n]
		wantEncode(t, reply.Bulk(s), 2, "$"+strconv.Itoa(n)+"\r\n"+s+"\r\n")
	}
	for x := range 256 {
		s := string([]byte{byte(x)})
		wantBoth(t, reply.Bulk(s), "$1\r\n"+s+"\r\n", "$1\r\n"+s+"\r\n")
	}
}

func TestEncodeManyParts(t *testing.T) {
	for n := range 250 {
		var l []api.Reply
		bytes, whole := "", ""
		for i := range n {
			l = append(l, reply.Int(int64(i)))
			bytes += ":" + strconv.Itoa(i) + "\r\n"
			if i == n/2*2-1 {
				whole = bytes
			}
		}
		count := strconv.Itoa(n) + "\r\n"
		wantEncode(t, array(l...), 2, "*"+count+bytes)
		wantEncode(t, array(l...), 3, "*"+count+bytes)
		wantEncode(t, set(l...), 2, "*"+count+bytes)
		wantEncode(t, set(l...), 3, "~"+count+bytes)
		wantEncode(t, pairs(l...), 2, "*"+count+bytes)
		wantEncode(t, pairs(l...), 3, "%"+strconv.Itoa(n/2)+"\r\n"+whole)
	}
}

func TestEncodeLastPartWithoutAPartner(t *testing.T) {
	for _, x := range []struct {
		r             api.Reply
		second, third string
	}{
		{pairs(a), "*1|$1|a|", "%0|"},
		{pairs(a, one, b), "*3|$1|a|:1|$1|b|", "%1|$1|a|:1|"},
		{pairs(array(pairs(a))), "*1|*1|*1|$1|a|", "%0|"},
		{array(pairs(a), b), "*2|*1|$1|a|$1|b|", "*2|%0|$1|b|"},
		{set(pairs(a, one, b)), "*1|*3|$1|a|:1|$1|b|", "~1|%1|$1|a|:1|"},
		{pairs(pairs(a), pairs(a, b, one), pairs(a)), "*3|*1|$1|a|*3|$1|a|$1|b|:1|*1|$1|a|", "%1|%0|%1|$1|a|$1|b|"},
	} {
		wantBoth(t, x.r, lines(x.second), lines(x.third))
	}
}

func TestEncodePartsInOneAnother(t *testing.T) {
	signs := map[int]string{api.Array: "*", api.SetReply: "~"}
	for deep := range 60 {
		for kind, sign := range signs {
			r := nested(kind, deep, set(pairs(a, null)))
			wantEncode(t, r, 2, strings.Repeat("*1\r\n", deep)+lines("*1|*2|$1|a|$-1|"))
			wantEncode(t, r, 3, strings.Repeat(sign+"1\r\n", deep)+lines("~1|%1|$1|a|_|"))
		}
		r := nested(api.MapReply, deep, set(nullArray))
		wantEncode(t, r, 2, strings.Repeat(lines("*2|$1|a|"), deep)+lines("*1|*-1|"))
		wantEncode(t, r, 3, strings.Repeat(lines("%1|$1|a|"), deep)+lines("~1|_|"))
	}
	r := array(set(array(), pairs(a, set(one))), pairs(array(null), array(b)), two)
	wantBoth(t, r, lines("*3|*2|*0|*2|$1|a|*1|:1|*2|*1|$-1|*1|$1|b|:2|"), lines("*3|~2|*0|%1|$1|a|~1|:1|%1|*1|_|*1|$1|b|:2|"))
}

func TestEncodeVeryDeep(t *testing.T) {
	const deep = 1<<16 - 1
	for kind, sign := range map[int]string{api.Array: "*", api.SetReply: "~"} {
		r := nested(kind, deep, null)
		if got := string(resp.Encode(r, 2)); got != strings.Repeat("*1\r\n", deep)+"$-1\r\n" {
			t.Errorf("P18.1: Encode of a very deep one in version 2: %d bytes", len(got))
		}
		if got := string(resp.Encode(r, 3)); got != strings.Repeat(sign+"1\r\n", deep)+"_\r\n" {
			t.Errorf("P18.1: Encode of a very deep one in version 3: %d bytes", len(got))
		}
	}
}

// read is a second reading of P18.1: a text for each Kind, with the texts of the parts in it.
func read(r api.Reply, third bool) string {
	counted := func(sign string, n int, l []api.Reply) string {
		s := []string{sign, strconv.Itoa(n), "\r\n"}
		for _, p := range l {
			s = append(s, read(p, third))
		}
		return strings.Join(s, "")
	}
	blanks := strings.NewReplacer("\r", " ", "\n", " ")
	switch {
	case r.Kind == api.Simple:
		return "+" + blanks.Replace(r.S) + "\r\n"
	case r.Kind == api.Error:
		return "-" + blanks.Replace(r.S) + "\r\n"
	case r.Kind == api.Int:
		return ":" + strconv.FormatInt(r.N, 10) + "\r\n"
	case r.Kind == api.Bulk:
		return counted("$", len(r.S), nil) + r.S + "\r\n"
	case r.Kind == api.MapReply && third:
		return counted("%", len(r.L)/2, r.L[:len(r.L)/2*2])
	case r.Kind == api.SetReply && third:
		return counted("~", len(r.L), r.L)
	case r.Kind == api.Array || r.Kind == api.MapReply || r.Kind == api.SetReply:
		return counted("*", len(r.L), r.L)
	case third:
		return "_\r\n"
	case r.Kind == api.NullArray:
		return "*-1\r\n"
	}
	return "$-1\r\n"
}

func TestEncodeAsReadTwice(t *testing.T) {
	for _, r := range all() {
		wantBoth(t, r, read(r, false), read(r, true))
		for _, kind := range withParts {
			x := of(kind, r, a, r)
			wantBoth(t, x, read(x, false), read(x, true))
		}
	}
}
