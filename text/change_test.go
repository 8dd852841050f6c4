package text_test

import (
	"math"
	"math/rand"
	"strings"
	"testing"

	"tallboy/api"
	"tallboy/text"
)

// P11.1: Append of texts of any bytes: both, one behind the other.
func TestAppend(t *testing.T) {
	wantAppend(t, "", "", "", api.OK)
	wantAppend(t, "ab", "", "ab", api.OK)
	wantAppend(t, "", "cd", "cd", api.OK)
	wantAppend(t, "ab", "cd", "abcd", api.OK)
	wantAppend(t, "cd", "ab", "cdab", api.OK)
	wantAppend(t, "\xc3", "\xa9", "\u00e9", api.OK)
	for _, s := range odd() {
		for _, more := range odd() {
			wantAppend(t, s, more, strings.Join([]string{s, more}, ""), api.OK)
		}
	}
}

// P11.1: Append at MaxText bytes and above, wherever the one is cut from the other.
func TestAppendAtItsEnd(t *testing.T) {
	for _, n := range []int{api.MaxText - 1, api.MaxText} {
		whole := long(n)
		for _, cut := range []int{0, 1, n / 2, n - 1, n} {
			wantAppend(t, whole[:cut], whole[cut:], whole, api.OK)
		}
	}
	for _, n := range []int{api.MaxText + 1, api.MaxText + 2, 2 * api.MaxText, 3 * api.MaxText} {
		whole := long(n)
		for _, cut := range []int{0, 1, n / 2, n - 1, n} {
			wantAppend(t, whole[:cut], whole[cut:], "", api.ErrLong)
		}
	}
}

// P11.1: SetRange, written out.
func TestSetRange(t *testing.T) {
	for _, c := range []struct {
		s    string
		at   int64
		put  string
		want string
	}{
		{"hello", 0, "j", "jello"}, {"hello", 1, "ipp", "hippo"}, {"hello", 4, "x", "hellx"}, {"hello", 3, "p!", "help!"},
		{"hello", 0, "world", "world"}, {"hello", 0, "worlds", "worlds"}, {"hello", 3, "pful", "helpful"},
		{"hello", 5, "x", "hellox"}, {"hello", 6, "x", "hello\x00x"}, {"hello", 8, "yz", "hello\x00\x00\x00yz"},
		{"", 0, "x", "x"}, {"", 1, "x", "\x00x"}, {"", 3, "xyz", "\x00\x00\x00xyz"},
		{"a", 0, "\x00", "\x00"}, {"a", 1, "\x00", "a\x00"}, {"\u00e9", 1, "\xa8", "\u00e8"}, {"abc", 1, "\u00e9", "a\u00e9"},
	} {
		wantSetRange(t, c.s, c.at, c.put, c.want, api.OK)
	}
}

// P11.1: SetRange ahead of the first byte is refused, whatever t is: first of all refusals, and ahead of an empty t.
func TestSetRangeBelowZero(t *testing.T) {
	for _, at := range ends() {
		if at >= 0 {
			continue
		}
		for _, s := range append(odd(), long(api.MaxText), long(api.MaxText+1)) {
			for _, put := range []string{"", "b", "\x00", long(api.MaxText), long(api.MaxText + 1)} {
				wantSetRange(t, s, at, put, "", api.ErrOffset)
			}
		}
	}
}

// P11.1: SetRange of an empty t: the text as it is, without zero bytes, wherever it should go and however long the text is.
func TestSetRangeOfNothing(t *testing.T) {
	texts := append(odd(), long(api.MaxText-1), long(api.MaxText), long(api.MaxText+1), long(2*api.MaxText))
	for _, at := range append(ends(), api.MaxText+1, 2*api.MaxText) {
		if at < 0 {
			continue
		}
		for _, s := range texts {
			wantSetRange(t, s, at, "", s, api.OK)
		}
	}
}

// P11.1: SetRange up to byte MaxText, and no further: the place alone, t alone, and both.
func TestSetRangeAtItsEnd(t *testing.T) {
	for _, s := range []string{"", "a", "hello", long(api.MaxText - 1), long(api.MaxText)} {
		for _, n := range []int{1, 2, 3, 256, api.MaxText / 2, api.MaxText - 1, api.MaxText} {
			put := strings.Repeat("z", n)
			at := api.MaxText - n
			wantSetRange(t, s, int64(at), put, laid(s, at, put), api.OK)
			wantSetRange(t, s, int64(at+1), put, "", api.ErrLong)
			wantSetRange(t, s, api.MaxText, put, "", api.ErrLong)
			wantSetRange(t, s, api.MaxText+1, put, "", api.ErrLong)
		}
		for _, n := range []int{api.MaxText + 1, 2 * api.MaxText} {
			wantSetRange(t, s, 0, long(n), "", api.ErrLong)
			wantSetRange(t, s, 1, long(n), "", api.ErrLong)
			wantSetRange(t, s, math.MaxInt64, long(n), "", api.ErrLong)
		}
	}
}

// P11.1: SetRange far away: a place whose sum with t's length wraps, or that is small in fewer bits, is above MaxText all the same.
func TestSetRangeFarAway(t *testing.T) {
	for _, at := range []int64{math.MaxInt32 - 1, math.MaxInt32, 1 << 32, 1<<32 + 1, 1<<63 - 1<<16, math.MaxInt64 - 3, math.MaxInt64 - 2, math.MaxInt64 - 1, math.MaxInt64} {
		for _, put := range []string{"b", "bcd", long(api.MaxText), long(api.MaxText + 1)} {
			wantSetRange(t, "a", at, put, "", api.ErrLong)
			wantSetRange(t, "", at, put, "", api.ErrLong)
		}
	}
}

// P11.1: SetRange of a text that is itself above MaxText bytes: the place and t are asked alone.
func TestSetRangeOfTooLongText(t *testing.T) {
	s := long(api.MaxText + 9)
	wantSetRange(t, s, 0, "xyz", "xyz"+s[3:], api.OK)
	wantSetRange(t, s, api.MaxText-3, "xyz", s[:api.MaxText-3]+"xyz"+s[api.MaxText:], api.OK)
	wantSetRange(t, s, api.MaxText-2, "xyz", "", api.ErrLong)
	wantSetRange(t, s, api.MaxText+1, "x", "", api.ErrLong)
}

// laid is s with put from at on, told byte by byte: a second reading.
func laid(s string, at int, put string) string {
	var b strings.Builder
	for i := range max(len(s), at+len(put)) {
		switch {
		case at <= i && i < at+len(put):
			b.WriteByte(put[i-at])
		case i < len(s):
			b.WriteByte(s[i])
		default:
			b.WriteByte(0)
		}
	}
	return b.String()
}

// P11.1: SetRange of every small length at every small place, and by chance.
func TestSetRangeEverywhere(t *testing.T) {
	for n := range 6 {
		for at := range 9 {
			for m := 1; m < 6; m++ {
				s, put := "abcdef"[:n], "UVWXYZ"[:m]
				wantSetRange(t, s, int64(at), put, laid(s, at, put), api.OK)
			}
		}
	}
	r := rand.New(rand.NewSource(112))
	for range 2000 {
		s, at, put := chance(r, 300), r.Intn(400), chance(r, 300)+"."
		wantSetRange(t, s, int64(at), put, laid(s, at, put), api.OK)
	}
}

// R4: an answer hangs on what is given alone, and what is given can be given again, whatever was asked between.
func TestAnswersAgain(t *testing.T) {
	s, put := strings.Clone("hello"), strings.Clone("ipp")
	for range 3 {
		wantSetRange(t, s, 1, put, "hippo", api.OK)
		wantSetRange(t, s, 7, put, "hello\x00\x00ipp", api.OK)
		wantSetBit(t, s, 2, 0, "Hello", 1, api.OK)
		wantSetBit(t, s, 41, 1, "hello\x40", 0, api.OK)
		wantAppend(t, s, put, "helloipp", api.OK)
		wantIncr(t, s, 1, "", 0, api.ErrInt)
		wantRange(t, s, 0, -1, "hello")
		wantCount(t, s, 0, -1, 21)
	}
	if s != "hello" || put != "ipp" {
		t.Fatalf("R2: %q and %q were changed", s, put)
	}
}

// R2: two texts that were made of the same one are each by itself.
func TestAnswersByThemselves(t *testing.T) {
	first, _ := text.SetRange("", 3, "x")
	second, _, _ := text.SetBit(first, 0, 1)
	third, _ := text.SetRange(first, 0, "abc")
	if first != "\x00\x00\x00x" || second != "\x80\x00\x00x" || third != "abcx" {
		t.Fatalf("R2: %q, %q, %q", first, second, third)
	}
}
