package text_test

import (
	"math"
	"math/rand"
	"strings"
	"testing"

	"tallboy/api"
	"tallboy/text"
)

// P11.2: Bit, written out: a byte's highest bit first, 0 below 0 and past the end.
func TestBit(t *testing.T) {
	for _, c := range []struct {
		s    string
		i    int64
		want int
	}{
		{"\x80", 0, 1}, {"\x80", 1, 0}, {"\x80", 7, 0}, {"\x40", 1, 1}, {"\x01", 7, 1}, {"\x01", 6, 0}, {"\x01", 0, 0},
		{"a", 0, 0}, {"a", 1, 1}, {"a", 2, 1}, {"a", 3, 0}, {"a", 7, 1},
		{"\x00\x01", 7, 0}, {"\x00\x01", 8, 0}, {"\x00\x01", 15, 1}, {"\x00\x80", 8, 1}, {"\x00\x80", 0, 0},
		{"\xff", 7, 1}, {"\xff", 8, 0}, {"\xff", 9, 0}, {"\xff\xff", 15, 1}, {"\xff\xff", 16, 0},
		{"\xff", -1, 0}, {"\xff", -7, 0}, {"\xff", -8, 0}, {"\xff", -9, 0}, {"\xff", math.MinInt64, 0}, {"\xff", math.MinInt64 + 1, 0}, {"\xff", -1 << 32, 0},
		{"\xff", 1 << 32, 0}, {"\xff", 1 << 35, 0}, {"\xff", math.MaxInt64, 0}, {"\xff", math.MaxInt64 - 7, 0},
		{"", 0, 0}, {"", 7, 0}, {"", -1, 0}, {"", math.MaxInt64, 0}, {"", math.MinInt64, 0},
	} {
		wantBit(t, c.s, c.i, c.want)
	}
}

// P11.2: each bit of texts of any bytes, and what stands around them.
func TestBitEverywhere(t *testing.T) {
	for _, s := range odd() {
		l := digits(s)
		for i := range len(l) {
			wantBit(t, s, int64(i), int(l[i]-'0'))
		}
		for i := range int64(99) {
			wantBit(t, s, -1-i, 0)
			wantBit(t, s, int64(len(l))+i, 0)
		}
		for _, i := range ends() {
			if i < 0 || i >= int64(len(l)) {
				wantBit(t, s, i, 0)
			}
		}
	}
}

// P11.2: Bit is asked for no limit but the text's end.
func TestBitOfLongTexts(t *testing.T) {
	for _, n := range []int{api.MaxText, api.MaxText + 1, 2 * api.MaxText} {
		s := strings.Repeat("\x00", n-1) + "\x03"
		last := int64(8*n - 1)
		wantBit(t, s, last-2, 0)
		wantBit(t, s, last-1, 1)
		wantBit(t, s, last, 1)
		wantBit(t, s, last+1, 0)
	}
}

// P11.2: SetBit, written out.
func TestSetBit(t *testing.T) {
	for _, c := range []struct {
		s    string
		i    int64
		b    int
		want string
		was  int
	}{
		{"", 0, 0, "\x00", 0}, {"", 0, 1, "\x80", 0}, {"", 7, 1, "\x01", 0}, {"", 8, 1, "\x00\x80", 0}, {"", 15, 0, "\x00\x00", 0}, {"", 23, 1, "\x00\x00\x01", 0},
		{"\xff", 0, 0, "\x7f", 1}, {"\xff", 0, 1, "\xff", 1}, {"\xff", 7, 0, "\xfe", 1}, {"\x00", 0, 0, "\x00", 0}, {"\x00", 3, 1, "\x10", 0},
		{"a", 1, 0, "!", 1}, {"a", 1, 1, "a", 1}, {"a", 6, 1, "c", 0}, {"a", 8, 0, "a\x00", 0}, {"a", 8, 1, "a\x80", 0}, {"a", 17, 1, "a\x00\x40", 0}, {"a", 23, 0, "a\x00\x00", 0},
		{"abc", 0, 1, "\xe1bc", 0}, {"abc", 15, 1, "acc", 0}, {"abc", 23, 0, "abb", 1}, {"\u00e9", 15, 0, "\u00e8", 1},
	} {
		wantSetBit(t, c.s, c.i, c.b, c.want, c.was, api.OK)
	}
}

// setDigit is the bits of s, with zeros up to a whole byte that has bit i, and that one as it is told: a second reading.
func setDigit(s string, i, b int) string {
	l := digits(s)
	for len(l) <= i {
		l += "00000000"
	}
	return l[:i] + string(byte('0'+b)) + l[i+1:]
}

// P11.2: each bit of texts of any bytes and of the bytes behind them, made 0 and 1: that one is it then, all others are as they were, and it is told what it was.
func TestSetBitEverywhere(t *testing.T) {
	for _, s := range append(odd(), "abc", "abcdefgh") {
		for i := range min(8*len(s), 320) + 25 {
			for b := range 2 {
				got, was, why := text.SetBit(s, int64(i), b)
				if why != api.OK || was != text.Bit(s, int64(i)) || digits(got) != setDigit(s, i, b) {
					t.Fatalf("P11.2: SetBit(%q, %d, %d): %q, %d, %v", short(s), i, b, short(got), was, why)
				}
				wantBit(t, got, int64(i), b)
				wantSetBit(t, got, int64(i), b, got, b, api.OK)
			}
		}
	}
}

// P11.2: a text that is made bit by bit, in any order.
func TestSetBitOneByOne(t *testing.T) {
	r := rand.New(rand.NewSource(113))
	for range 50 {
		want := chance(r, 12) + "\x01"
		l := digits(want)
		s := ""
		for _, i := range r.Perm(len(l)) {
			var was int
			var why api.Code
			if s, was, why = text.SetBit(s, int64(i), int(l[i]-'0')); was != 0 || why != api.OK {
				t.Fatalf("P11.2: SetBit, bit %d of %q: %d, %v", i, want, was, why)
			}
		}
		if s != want {
			t.Fatalf("P11.2: bit by bit: %q, want %q", s, want)
		}
	}
}

// P11.2: SetBit at the last bit that there may be, and at the one ahead of it.
func TestSetBitAtItsEnd(t *testing.T) {
	const last = 8*api.MaxText - 1
	zeros := strings.Repeat("\x00", api.MaxText)
	most := long(api.MaxText-1) + "\xff"
	for _, s := range []string{"", "\x00", zeros[1:], zeros} {
		wantSetBit(t, s, last, 1, zeros[1:]+"\x01", 0, api.OK)
		wantSetBit(t, s, last, 0, zeros, 0, api.OK)
		wantSetBit(t, s, last-7, 1, zeros[1:]+"\x80", 0, api.OK)
	}
	wantSetBit(t, zeros[2:], last-8, 1, zeros[2:]+"\x01", 0, api.OK)
	wantSetBit(t, most, last, 0, most[:api.MaxText-1]+"\xfe", 1, api.OK)
	wantSetBit(t, most, last, 1, most, 1, api.OK)
}

// P11.2: SetBit of a text that is itself above MaxText bytes: i is asked alone.
func TestSetBitOfTooLongText(t *testing.T) {
	s := strings.Repeat("\x00", api.MaxText+9)
	wantSetBit(t, s, 0, 1, "\x80"+s[1:], 0, api.OK)
	wantSetBit(t, s, 8*api.MaxText-1, 1, s[:api.MaxText-1]+"\x01"+s[api.MaxText:], 0, api.OK)
	wantSetBit(t, s, 8*api.MaxText, 1, "", 0, api.ErrBit)
}

// P11.2: SetBit refuses each i outside of 0 to 8 MaxText - 1, with each b, though the text may have 1 elsewhere.
func TestSetBitRefusesPlaces(t *testing.T) {
	for _, i := range []int64{math.MinInt64, math.MinInt64 + 1, -1 << 35, -1 << 32, -9, -8, -7, -1, 8 * api.MaxText, 8*api.MaxText + 1, 8*api.MaxText + 7, 8*api.MaxText + 8, math.MaxInt32, 1 << 32, 1<<32 + 1, 1 << 35, math.MaxInt64 - 7, math.MaxInt64} {
		for _, s := range []string{"", "a", "\xff\xff", strings.Repeat("\xff", api.MaxText), strings.Repeat("\xff", api.MaxText+9)} {
			for _, b := range []int{0, 1, 2, -1} {
				wantSetBit(t, s, i, b, "", 0, api.ErrBit)
			}
		}
	}
}

// P11.2: SetBit refuses each b that is neither 0 nor 1, those that are so in fewer bits too.
func TestSetBitRefusesValues(t *testing.T) {
	for _, b := range []int{math.MinInt, math.MinInt + 1, -1 << 32, -256, -255, -2, -1, 2, 3, 10, 255, 256, 257, 1 << 16, 1<<32 + 1, 1 << 62, math.MaxInt - 1, math.MaxInt} {
		for _, i := range []int64{0, 7, 8, 999, 8*api.MaxText - 1} {
			for _, s := range []string{"", "a", "\xff\xff"} {
				wantSetBit(t, s, i, b, "", 0, api.ErrBit)
			}
		}
	}
}
