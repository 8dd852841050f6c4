package text_test

import (
	"math"
	"math/rand"
	"strings"
	"testing"

	"tallboy/api"
	"tallboy/text"
)

// The chapter's run and examples.
func TestRuns(t *testing.T) {
	wantRange(t, "hello", -3, -1, "llo")
	wantSetRange(t, "a", 3, "b", "a\x00\x00b", api.OK)
	wantIncr(t, "9223372036854775807", 1, "", 0, api.ErrOver)
}

// P11.1: Range, written out: ends in it, from the end, past it, and the wrong way round.
func TestRange(t *testing.T) {
	for _, c := range []struct {
		a, b int64
		want string
	}{
		{0, 4, "hello"}, {0, -1, "hello"}, {-5, -1, "hello"}, {-5, 4, "hello"},
		{0, 0, "h"}, {1, 1, "e"}, {4, 4, "o"}, {-1, -1, "o"}, {-5, -5, "h"}, {-5, 0, "h"}, {4, -1, "o"}, {-1, 4, "o"},
		{1, 3, "ell"}, {-4, -2, "ell"}, {1, -2, "ell"}, {-4, 3, "ell"},
		{0, 5, "hello"}, {0, 99, "hello"}, {4, 5, "o"}, {4, math.MaxInt64, "o"}, {-1, math.MaxInt64, "o"},
		{-6, -1, "hello"}, {-6, 1, "he"}, {-99, 0, "h"}, {math.MinInt64, 0, "h"}, {math.MinInt64, -5, "h"}, {math.MinInt64, math.MaxInt64, "hello"},
		{5, 5, ""}, {5, -1, ""}, {5, 99, ""}, {99, 100, ""}, {math.MaxInt64, math.MaxInt64, ""}, {math.MaxInt64, -1, ""},
		{0, -6, ""}, {-6, -6, ""}, {-99, -6, ""}, {-99, -99, ""}, {math.MinInt64, math.MinInt64, ""}, {0, math.MinInt64, ""},
		{1, 0, ""}, {3, 2, ""}, {4, 0, ""}, {-1, -2, ""}, {-1, 0, ""}, {4, -2, ""}, {math.MaxInt64, math.MinInt64, ""}, {math.MaxInt64, 0, ""},
	} {
		wantRange(t, "hello", c.a, c.b, c.want)
	}
}

// P11.1: Range and Count of all pairs of ends, of texts of each small length and of any bytes.
func TestSpansEverywhere(t *testing.T) {
	texts := odd()
	for n := range 8 {
		texts = append(texts, every()[120:120+n])
	}
	for _, s := range texts {
		for _, a := range ends() {
			for _, b := range ends() {
				want := piece(s, a, b)
				wantRange(t, s, a, b, want)
				wantCount(t, s, a, b, int64(strings.Count(digits(want), "1")))
			}
		}
	}
}

// P11.1: of no bytes there is no span.
func TestSpansOfNothing(t *testing.T) {
	for _, a := range ends() {
		for _, b := range ends() {
			wantRange(t, "", a, b, "")
			wantCount(t, "", a, b, 0)
		}
	}
}

// P11.1: spans by chance, of longer texts.
func TestSpansByChance(t *testing.T) {
	r := rand.New(rand.NewSource(11))
	for range 2000 {
		s := chance(r, 300)
		a, b := int64(r.Intn(800)-400), int64(r.Intn(800)-400)
		want := piece(s, a, b)
		wantRange(t, s, a, b, want)
		wantCount(t, s, a, b, int64(strings.Count(digits(want), "1")))
	}
}

// P11.1: spans are asked for no limit: of a text of MaxText bytes, and of a longer one.
func TestSpansOfLongTexts(t *testing.T) {
	for _, n := range []int{api.MaxText - 1, api.MaxText, api.MaxText + 1, 3 * api.MaxText} {
		s := long(n)
		last := int64(n - 1)
		wantRange(t, s, 0, -1, s)
		wantRange(t, s, 0, last, s)
		wantRange(t, s, 1, last-1, s[1:n-1])
		wantRange(t, s, last, last, s[n-1:])
		wantRange(t, s, last+1, last+1, "")
		wantRange(t, s, -last-1, -last-1, s[:1])
		wantRange(t, s, -last-2, -last-2, "")
		ones := strings.Repeat("\xff", n)
		wantCount(t, ones, 0, -1, 8*int64(n))
		wantCount(t, ones, 1, -2, 8*int64(n-2))
		wantCount(t, ones, -2, last, 16)
		wantCount(t, ones, last, last+9, 8)
	}
}

// P11.1: Count, written out.
func TestCount(t *testing.T) {
	for _, c := range []struct {
		s    string
		a, b int64
		want int64
	}{
		{"\xff\x01\x80", 0, -1, 10}, {"\xff\x01\x80", 0, 0, 8}, {"\xff\x01\x80", 1, 1, 1}, {"\xff\x01\x80", 2, 2, 1}, {"\xff\x01\x80", -2, -1, 2}, {"\xff\x01\x80", 0, 1, 9},
		{"\xff\x01\x80", 1, 99, 2}, {"\xff\x01\x80", -99, 0, 8}, {"\xff\x01\x80", -99, -4, 0}, {"\xff\x01\x80", 2, 1, 0}, {"\xff\x01\x80", 3, 9, 0}, {"\xff\x01\x80", -1, 0, 0},
		{"\xff", math.MinInt64, math.MaxInt64, 8}, {"\xff", math.MaxInt64, math.MinInt64, 0},
		{"\x00\x00", 0, -1, 0}, {"foobar", 0, -1, 26}, {"foobar", 0, 0, 4}, {"foobar", 1, 1, 6}, {"\u00e9", 0, -1, 8}, {"\u00e9", 1, 1, 4},
	} {
		wantCount(t, c.s, c.a, c.b, c.want)
	}
}

// P11.1: Count of each byte by itself, and among others.
func TestCountOfEachByte(t *testing.T) {
	for i := range int64(256) {
		want := int64(0)
		for n := i; n > 0; n /= 2 {
			want += n % 2
		}
		wantCount(t, string([]byte{byte(i)}), 0, -1, want)
		wantCount(t, every(), i, i, want)
	}
	wantCount(t, every(), 0, -1, 1024)
}

// P11.1: what Count tells is how often Bit tells 1 in the span.
func TestCountIsSumOfBits(t *testing.T) {
	r := rand.New(rand.NewSource(111))
	for range 300 {
		s := chance(r, 40)
		a, b := int64(r.Intn(100)-50), int64(r.Intn(100)-50)
		sum := int64(0)
		for i := range 8 * int64(len(s)) {
			if inSpan(i/8, int64(len(s)), a, b) {
				sum += int64(text.Bit(s, i))
			}
		}
		wantCount(t, s, a, b, sum)
	}
}
