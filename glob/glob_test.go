package glob_test

import (
	"math/rand"
	"strings"
	"testing"

	"tallboy/glob"
)

// wantMatch asks that the pattern matches each of some texts.
func wantMatch(t *testing.T, pattern string, texts ...string) {
	t.Helper()
	for _, s := range texts {
		if !glob.Match(pattern, s) {
			t.Errorf("P3.1: Match(%q, %q): false", pattern, s)
		}
	}
}

// wantNone asks that the pattern matches none of some texts.
func wantNone(t *testing.T, pattern string, texts ...string) {
	t.Helper()
	for _, s := range texts {
		if glob.Match(pattern, s) {
			t.Errorf("P3.1: Match(%q, %q): true", pattern, s)
		}
	}
}

// wantBytes asks that the pattern matches the texts of one byte that are told, and no other text of one byte, nor the empty one.
func wantBytes(t *testing.T, pattern, members string) {
	t.Helper()
	for b := range 256 {
		s := string([]byte{byte(b)})
		if want := strings.IndexByte(members, byte(b)) >= 0; glob.Match(pattern, s) != want {
			t.Errorf("P3.1: Match(%q, %q): %t", pattern, s, !want)
		}
	}
	wantNone(t, pattern, "")
}

// between has all bytes from the lower to the higher one.
func between(low, high int) string {
	var l []byte
	for b := low; b <= high; b++ {
		l = append(l, byte(b))
	}
	return string(l)
}

// allBut has all bytes but those that are told.
func allBut(members string) string {
	var l []byte
	for b := range 256 {
		if strings.IndexByte(members, byte(b)) < 0 {
			l = append(l, byte(b))
		}
	}
	return string(l)
}

// P3.1: the whole text is held against the whole pattern.
func TestPlainBytes(t *testing.T) {
	wantMatch(t, "", "")
	wantNone(t, "", "a", "\x00", "*", " ")
	wantMatch(t, "abc", "abc")
	wantNone(t, "abc", "", "a", "ab", "abcd", "xabc", "abC", "ABC", "acb", "bc")
	wantMatch(t, "user:1", "user:1")
	wantNone(t, "user:1", "user:", "user:11", "user:2")
	wantMatch(t, "\x00\xff\x80", "\x00\xff\x80")
	wantNone(t, "\x00\xff\x80", "\x00\xff", "\x00\xff\x81")
	wantMatch(t, "]^-", "]^-")
	wantMatch(t, "a]", "a]")
}

// P3.1: each byte that is not odd is itself alone.
func TestEveryByteItself(t *testing.T) {
	for b := range 256 {
		s := string([]byte{byte(b)})
		if strings.Contains("*?[", s) {
			continue
		}
		wantBytes(t, s, s)
	}
}

// P3.1: a star at the beginning, in the midst and at the end, with none, one and many bytes.
func TestStar(t *testing.T) {
	many := strings.Repeat("x", 1000)
	wantMatch(t, "*", "", "a", "*", "abc", "\x00\xff", many)
	wantMatch(t, "*ab", "ab", "xab", many+"ab", "abab", "aab")
	wantNone(t, "*ab", "", "a", "b", "abx", "ba", "xabx")
	wantMatch(t, "ab*", "ab", "abx", "ab"+many, "abab")
	wantNone(t, "ab*", "", "a", "xab", "ba", "xabx")
	wantMatch(t, "a*b", "ab", "axb", "a"+many+"b", "abb", "aab", "abab")
	wantNone(t, "a*b", "", "a", "b", "ba", "abx", "xab", "axc")
	wantMatch(t, "*a*", "a", "xa", "ax", "xax", many+"a"+many)
	wantNone(t, "*a*", "", "x", many)
	wantMatch(t, "h*llo", "hllo", "hello", "heeeello")
	wantNone(t, "h*llo", "hell", "ello")
}

// P3.1: stars one behind another say no more than one.
func TestStarsInARow(t *testing.T) {
	for _, stars := range []string{"*", "**", "***", strings.Repeat("*", 500)} {
		wantMatch(t, stars, "", "a", "abc")
		wantMatch(t, "a"+stars+"b", "ab", "axb", "axyzb")
		wantNone(t, "a"+stars+"b", "a", "b", "abc", "")
		wantMatch(t, stars+"a", "a", "ba", "aa")
		wantMatch(t, "a"+stars, "a", "ab", "abc")
		wantNone(t, stars+"a"+stars, "", "b")
	}
	wantMatch(t, "*?*", "a", "ab")
	wantNone(t, "*?*", "")
	wantMatch(t, "*?*?", "ab", "abc")
	wantNone(t, "*?*?", "", "a")
}

// P3.1: texts that match only where a star takes more than it did at first.
func TestStarTakesMore(t *testing.T) {
	wantMatch(t, "*ab", "aab", "aaab", "abaab")
	wantMatch(t, "a*bc", "abxbc", "abbc", "abcbc", "abcabcbbc")
	wantNone(t, "a*bc", "abxbcx", "abcb")
	wantMatch(t, "*aab", "aaaab", "aaabaab")
	wantMatch(t, "*ab*cd", "aabacdcd", "ababccd", "abcdabcd")
	wantNone(t, "*ab*cd", "cdab", "abc", "acdbcdx", "aabacdcdx")
	wantMatch(t, "*a*b*c", "abcabc", "aabbcc", "xabxbcxc")
	wantNone(t, "*a*b*c", "acb", "cba", "abcb")
	wantMatch(t, "*[0-9]x", "1y2x", "11x", "12x")
	wantMatch(t, "*?b", "ab", "bb", "abb", "bbb")
	wantNone(t, "*?b", "b", "ba", "")
	wantMatch(t, `*\*b`, "**b", "*a*b")
	wantNone(t, `*\*b`, "ab", "*ab")
}

// P3.1: many stars end soon, though no way through them matches.
func TestManyStars(t *testing.T) {
	text := strings.Repeat("a", 5000)
	wantNone(t, strings.Repeat("a*", 1000)+"b", text)
	wantNone(t, strings.Repeat("*a", 1000)+"*b", text)
	wantNone(t, strings.Repeat("*[^b]", 1000)+"b", text)
	wantMatch(t, strings.Repeat("a*", 1000)+"a", text)
	wantMatch(t, strings.Repeat("*?", 5000), text)
	wantNone(t, strings.Repeat("*?", 5001), text)
}

// P3.1: '?' is one byte, whichever it is, and never none.
func TestQuestionMark(t *testing.T) {
	wantBytes(t, "?", allBut(""))
	wantNone(t, "?", "ab", "\u00e9")
	wantMatch(t, "??", "ab", "\u00e9")
	wantNone(t, "??", "", "a", "abc")
	wantMatch(t, "a?", "ab", "a?")
	wantNone(t, "a?", "a", "abc", "ba", "?")
	wantMatch(t, "h?llo", "hello", "hallo")
	wantNone(t, "h?llo", "hllo", "heello")
	wantMatch(t, "?*", "a", "ab")
	wantNone(t, "?*", "")
	wantMatch(t, "*?", "a", "ab")
	wantNone(t, "*?", "")
}

// P3.1: a '\' and a byte is that byte, each of the odd ones too.
func TestBackslash(t *testing.T) {
	for b := range 256 {
		s := string([]byte{byte(b)})
		wantBytes(t, `\`+s, s)
		wantMatch(t, `x\`+s+"y", "x"+s+"y")
		wantNone(t, `x\`+s+"y", "xy", "x", `x\`+s+"y", "x"+s)
	}
	wantMatch(t, `\*`, "*")
	wantNone(t, `\*`, "", "a", "**", `\`, `\*`)
	wantMatch(t, `\?`, "?")
	wantNone(t, `\?`, "a", `\?`)
	wantMatch(t, `\[a]`, "[a]")
	wantNone(t, `\[a]`, "a", "[a", `\a`)
	wantMatch(t, `\\`, `\`)
	wantNone(t, `\\`, `\\`, "")
	wantMatch(t, `\\*`, `\`, `\a`, `\*`)
	wantNone(t, `\\*`, "*", "a")
	wantMatch(t, `h\*llo`, "h*llo")
	wantNone(t, `h\*llo`, "hello")
}

// P3.1: a '\' at the end of the pattern is itself.
func TestBackslashAtTheEnd(t *testing.T) {
	wantBytes(t, `\`, `\`)
	wantMatch(t, `a\`, `a\`)
	wantNone(t, `a\`, "a", `a\\`, "ab", `\`, "")
	wantMatch(t, `*\`, `\`, `a\`, `\\`)
	wantNone(t, `*\`, "", "a", `\a`)
	wantMatch(t, `\\\`, `\\`)
	wantNone(t, `\\\`, `\`, `\\\`)
}

// P3.1: a class of single members is one byte of them.
func TestClass(t *testing.T) {
	wantBytes(t, "[abc]", "abc")
	wantBytes(t, "[aa]", "a")
	wantBytes(t, "[*?[]", "*?[")
	wantBytes(t, "[a^]", "a^")
	wantBytes(t, "[\xff\x80\x00]", "\xff\x80\x00")
	wantNone(t, "[abc]", "ab", "[abc]", "ad", "aa")
	wantMatch(t, "h[ae]llo", "hello", "hallo")
	wantNone(t, "h[ae]llo", "hillo", "hllo", "haello")
	wantMatch(t, "[abc]x", "ax", "cx")
	wantNone(t, "[abc]x", "x", "a", "dx", "abx")
	wantMatch(t, "[ab][cd]", "ac", "bd")
	wantNone(t, "[ab][cd]", "a", "ca", "ab", "acd")
	wantMatch(t, "*[ab]*", "a", "xb", "bx", "xax")
	wantNone(t, "*[ab]*", "", "x")
}

// P3.1: a class with '^' is one byte that it has not; a '^' elsewhere is a member.
func TestClassWithout(t *testing.T) {
	wantBytes(t, "[^abc]", allBut("abc"))
	wantBytes(t, "[^a-c]", allBut("abc"))
	wantBytes(t, "[^c-a]", allBut("abc"))
	wantBytes(t, "[^^]", allBut("^"))
	wantBytes(t, "[^^a]", allBut("^a"))
	wantBytes(t, `[\^a]`, "^a")
	wantBytes(t, `[^\]]`, allBut("]"))
	wantBytes(t, "[^-a]", allBut("-a"))
	wantBytes(t, "[^a-]", allBut("a-"))
	wantBytes(t, "[^\x80-\xff]", between(0, 0x7f))
	wantMatch(t, "h[^a]*o", "hello")
	wantNone(t, "h[^e]*o", "hello")
	wantNone(t, "h[^a]*o", "ho", "hao", "hallo")
}

// P3.1: a range has both its ends and what lies between them, whichever stands first.
func TestRange(t *testing.T) {
	wantBytes(t, "[a-c]", "abc")
	wantBytes(t, "[c-a]", "abc")
	wantBytes(t, "[z-a]", between('a', 'z'))
	wantBytes(t, "[a-a]", "a")
	wantBytes(t, "[a-cx-z]", "abcxyz")
	wantBytes(t, "[c-az-x5]", "abcxyz5")
	wantBytes(t, "[a-c-e]", "abc-e")
	wantBytes(t, "[\x00-\xff]", allBut(""))
	wantBytes(t, "[\xff-\x00]", allBut(""))
	wantBytes(t, "[^\x00-\xff]", "")
	wantBytes(t, "[\x7f-\x81]", "\x7f\x80\x81")
	wantBytes(t, "[\xff-\xf0]", between(0xf0, 0xff))
	wantBytes(t, "[[-^]", `[\]^`)
	wantBytes(t, "[a-^]", "^_`a")
	wantBytes(t, "[^^-a]", allBut("^_`a"))
	wantBytes(t, "[*-,]", "*+,")
	wantMatch(t, "[a-c][0-9]", "b5")
	wantNone(t, "[a-c][0-9]", "5b", "bb", "b", "d5")
}

// P3.1: '-' is a member as the first and as the last one, and may end a range.
func TestMinusAsMember(t *testing.T) {
	wantBytes(t, "[-]", "-")
	wantBytes(t, "[-a]", "-a")
	wantBytes(t, "[a-]", "a-")
	wantBytes(t, "[ab-]", "ab-")
	wantBytes(t, "[a-c-]", "abc-")
	wantBytes(t, "[--]", "-")
	wantBytes(t, "[---]", "-")
	wantBytes(t, "[--0]", "-./0")
	wantBytes(t, "[+--]", "+,-")
	wantBytes(t, "[a--]", between('-', 'a'))
	wantMatch(t, "[a-]b]", "ab]", "-b]")
	wantNone(t, "[a-]b]", "a", "b", "ab", "a]")
}

// P3.1: a '\' and a byte is that byte in a class too, so it neither ends the class nor begins a range.
func TestBackslashInClass(t *testing.T) {
	wantBytes(t, `[\]]`, "]")
	wantBytes(t, `[\]a]`, "]a")
	wantBytes(t, `[a\]b]`, "a]b")
	wantBytes(t, `[\-]`, "-")
	wantBytes(t, `[a\-c]`, "a-c")
	wantBytes(t, `[\-z]`, "-z")
	wantBytes(t, `[\a-z]`, "a-z")
	wantBytes(t, `[\]-a]`, "]-a")
	wantBytes(t, `[\--0]`, "-0")
	wantBytes(t, `[\a--0]`, "a-./0")
	wantBytes(t, `[\\]`, `\`)
	wantBytes(t, `[\\-a]`, `\-a`)
	wantBytes(t, `[\xff]`, "xf")
	wantBytes(t, "[\\\xff]", "\xff")
	wantMatch(t, `[\]]]`, "]]")
	wantNone(t, `[\]]]`, "]", `\]`)
}

// P3.1: as the second byte of a range a '\' is a byte like others, and what is behind it a new member, or the end.
func TestRangeToBackslash(t *testing.T) {
	wantBytes(t, `[a-\]`, between('\\', 'a'))
	wantBytes(t, `[Z-\]`, `Z[\`)
	wantBytes(t, `[Z-\x]`, `Z[\x`)
	wantMatch(t, `[a-\]]`, "a]", "^]", `\]`, "]]")
	wantNone(t, `[a-\]]`, "b]", "a", "]")
}

// P3.1: a ']' ends a class even as the first: without members, it is no byte at all, or any one with '^'.
func TestEmptyClass(t *testing.T) {
	wantBytes(t, "[]", "")
	wantBytes(t, "[^]", allBut(""))
	wantNone(t, "[]", "]", "[]", "a")
	wantNone(t, "[]a", "a", "]a", "]")
	wantNone(t, "[]a]", "a", "]", "a]", "]a]")
	wantNone(t, "*[]*", "", "a", "]")
	wantMatch(t, "[^]a]", "xa]", "]a]")
	wantNone(t, "[^]a]", "a]", "x", "]", "xa")
	wantNone(t, "[^]", "", "ab")
}

// P3.1: a class that does not end has the members up to the end.
func TestClassWithoutEnd(t *testing.T) {
	wantBytes(t, "[", "")
	wantBytes(t, "[^", allBut(""))
	wantBytes(t, "[a", "a")
	wantBytes(t, "[ab", "ab")
	wantBytes(t, "[^ab", allBut("ab"))
	wantBytes(t, "[a-c", "abc")
	wantBytes(t, "[c-a", "abc")
	wantBytes(t, "[^c-a", allBut("abc"))
	wantBytes(t, "[a*", "a*")
	wantBytes(t, "[\xff", "\xff")
	wantNone(t, "a[", "a", "a[", "ab", "[")
	wantNone(t, "*[", "", "[", "a[", "ab")
	wantMatch(t, "a[^", "ab", "a^", "a[")
	wantNone(t, "a[^", "a", "abc", "a[^")
	wantMatch(t, "*[ab", "a", "xb", "aab")
	wantNone(t, "*[ab", "", "x", "ax")
}

// P3.1: a class that does not end, and whose last byte is odd in classes.
func TestClassWithoutEndOddLast(t *testing.T) {
	wantBytes(t, `[\`, `\`)
	wantBytes(t, `[a\`, `a\`)
	wantBytes(t, `[^a\`, allBut(`a\`))
	wantBytes(t, `[^\`, allBut(`\`))
	wantBytes(t, `[\]`, "]")
	wantBytes(t, `[^\]`, allBut("]"))
	wantBytes(t, `[a\]b`, "a]b")
	wantBytes(t, `[\\`, `\`)
	wantBytes(t, `[a-\`, between('\\', 'a'))
	wantBytes(t, "[-", "-")
	wantBytes(t, "[a-", "a-")
	wantBytes(t, "[^a-", allBut("a-"))
	wantBytes(t, "[^-", allBut("-"))
	wantBytes(t, `[\-`, "-")
	wantBytes(t, `[\a-`, "a-")
	wantBytes(t, "[--", "-")
	wantBytes(t, "[a--", between('-', 'a'))
	wantBytes(t, "[^^", allBut("^"))
	wantBytes(t, "[[", "[")
}

// thing is what one byte of a text is held against, or a star.
type thing struct {
	star bool
	has  [256]bool
}

// things reads a pattern as a row of them.
func things(pattern string) []thing {
	var l []thing
	for i := 0; i < len(pattern); i++ {
		var th thing
		switch c := pattern[i]; {
		case c == '*':
			th.star = true
		case c == '?':
			for b := range th.has {
				th.has[b] = true
			}
		case c == '[':
			th.has, i = members(pattern, i+1)
		case c == '\\' && i+1 < len(pattern):
			i++
			th.has[pattern[i]] = true
		default:
			th.has[c] = true
		}
		l = append(l, th)
	}
	return l
}

// members reads a class from behind its '[', and tells where it ends.
func members(pattern string, i int) (has [256]bool, end int) {
	without := false
	if i < len(pattern) && pattern[i] == '^' {
		without = true
		i++
	}
	for ; i < len(pattern) && pattern[i] != ']'; i++ {
		if pattern[i] == '\\' && i+1 < len(pattern) {
			i++
			has[pattern[i]] = true
			continue
		}
		from, to := int(pattern[i]), int(pattern[i])
		if i+2 < len(pattern) && pattern[i+1] == '-' && pattern[i+2] != ']' {
			to = int(pattern[i+2])
			i += 2
		}
		for from != to {
			has[from] = true
			if from < to {
				from++
			} else {
				from--
			}
		}
		has[to] = true
	}
	for b := range has {
		has[b] = has[b] != without
	}
	return has, i
}

// matchAllWays follows every way through the stars at once: which lengths of the text the things so far can be.
func matchAllWays(pattern, s string) bool {
	can := make([]bool, len(s)+1)
	can[0] = true
	for _, th := range things(pattern) {
		next := make([]bool, len(s)+1)
		for n := range next {
			switch {
			case th.star:
				next[n] = can[n] || n > 0 && next[n-1]
			case n > 0:
				next[n] = can[n-1] && th.has[s[n-1]]
			}
		}
		can = next
	}
	return can[len(s)]
}

// P3.1: patterns by chance, held against a match that follows all ways.
func TestAgainstAllWays(t *testing.T) {
	r := rand.New(rand.NewSource(3))
	text := func(longest int, of string) string {
		l := make([]byte, r.Intn(longest+1))
		for i := range l {
			l[i] = of[r.Intn(len(of))]
		}
		return string(l)
	}
	matches := 0
	for range 200000 {
		p, s := text(10, "aabc*?[]^-\\\xff"), text(8, "aabc]-\\\xff")
		want := matchAllWays(p, s)
		if glob.Match(p, s) != want {
			t.Fatalf("P3.1: Match(%q, %q): %t", p, s, !want)
		}
		if want {
			matches++
		}
	}
	if matches < 5000 {
		t.Errorf("only %d of the patterns matched: too few to tell", matches)
	}
}

// P3.2: the four odd bytes, at each place, and no other byte.
func TestPlain(t *testing.T) {
	for b := range 256 {
		s := string([]byte{byte(b)})
		want := s != "*" && s != "?" && s != "[" && s != `\`
		for _, p := range []string{s, s + "ab", "a" + s + "b", "ab" + s, s + s} {
			if glob.Plain(p) != want {
				t.Errorf("P3.2: Plain(%q): %t", p, !want)
			}
		}
	}
	for p, want := range map[string]bool{
		"": true, "user:1": true, "]^-": true, "\x00\xff": true, strings.Repeat("a", 5000): true,
		"h?llo": false, "h*llo": false, "h[ae]llo": false, `h\*llo`: false, `*?[\`: false, strings.Repeat("a", 5000) + "*": false,
	} {
		if glob.Plain(p) != want {
			t.Errorf("P3.2: Plain(%q): %t", p, !want)
		}
	}
}

// A plain pattern says itself alone.
func TestPlainMatchesItself(t *testing.T) {
	for _, p := range []string{"", "user:1", "]^-", "\x00\xff"} {
		if !glob.Plain(p) || !glob.Match(p, p) || glob.Match(p, p+"x") || glob.Match(p, "x"+p) {
			t.Errorf("P3.1, P3.2: %q is not itself alone", p)
		}
	}
}
