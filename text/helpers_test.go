package text_test

import (
	"math"
	"math/rand"
	"strings"
	"testing"

	"tallboy/api"
	"tallboy/text"
)

// ends are places of spans: all near 0, those around MaxText, and the ends of int64; those that are small in fewer bits are among them.
func ends() []int64 {
	l := []int64{
		math.MinInt64, math.MinInt64 + 1, math.MinInt64 + 5, -1<<32 - 1, -1 << 32, -1<<32 + 2, math.MinInt32, -api.MaxText - 1, -api.MaxText, -256, -255,
		255, 256, api.MaxText - 1, api.MaxText, math.MaxInt32, 1 << 32, 1<<32 + 1, math.MaxInt64 - 5, math.MaxInt64 - 1, math.MaxInt64,
	}
	for i := range int64(19) {
		l = append(l, i-9)
	}
	return l
}

// odd are texts of any bytes: empty, of zeros, of broken and of whole runes, of all bytes.
func odd() []string {
	return []string{"", "\x00", "\x00\x00\x00", "a", "hello", "\xff", "\x80", "\x01", "\xff\x00\xff", "\u00e9", "\u65e5\u672c", "\xed\xa0\x80", "\xc3", "a\r\n", "12", "-7", every()}
}

// every has each byte once, in order.
func every() string {
	var b []byte
	for c := range 256 {
		b = append(b, byte(c))
	}
	return string(b)
}

// long is a text of n bytes that are not all alike.
func long(n int) string {
	b := make([]byte, n)
	for i := range b {
		b[i] = byte(i*7 + i/256)
	}
	return string(b)
}

// chance is a text of up to most bytes, by chance.
func chance(r *rand.Rand, most int) string {
	b := make([]byte, r.Intn(most+1))
	for i := range b {
		b[i] = byte(r.Intn(256))
	}
	return string(b)
}

// short is a text as a failure shows it.
func short(s string) string {
	if len(s) > 40 {
		return s[:40] + ".."
	}
	return s
}

// inSpan tells whether place i of n is in the span: a second reading, which asks place by place and holds no end back.
func inSpan(i, n, a, b int64) bool {
	if a < 0 {
		a += n
	}
	if b < 0 {
		b += n
	}
	return a <= i && i <= b
}

// piece is the bytes of the span, by inSpan.
func piece(s string, a, b int64) string {
	var l []byte
	for i := range int64(len(s)) {
		if inSpan(i, int64(len(s)), a, b) {
			l = append(l, s[i])
		}
	}
	return string(l)
}

// digits are the bits of s, written as 0 and 1, each byte's highest first.
func digits(s string) string {
	var b strings.Builder
	for i := 0; i < len(s); i++ {
		for value := 128; value > 0; value /= 2 {
			b.WriteByte(byte('0' + int(s[i])/value%2))
		}
	}
	return b.String()
}

func wantRange(t *testing.T, s string, a, b int64, want string) {
	t.Helper()
	if got := text.Range(s, a, b); got != want {
		t.Fatalf("P11.1: Range(%q, %d, %d): %q, want %q", short(s), a, b, short(got), short(want))
	}
}

func wantCount(t *testing.T, s string, a, b int64, want int64) {
	t.Helper()
	if got := text.Count(s, a, b); got != want {
		t.Fatalf("P11.1: Count(%q, %d, %d): %d, want %d", short(s), a, b, got, want)
	}
}

func wantAppend(t *testing.T, s, more, want string, wantWhy api.Code) {
	t.Helper()
	if got, why := text.Append(s, more); got != want || why != wantWhy {
		t.Fatalf("P11.1: Append(%q of %d, %q of %d): %q of %d, %v; want %q of %d, %v", short(s), len(s), short(more), len(more), short(got), len(got), why, short(want), len(want), wantWhy)
	}
}

func wantSetRange(t *testing.T, s string, at int64, put, want string, wantWhy api.Code) {
	t.Helper()
	if got, why := text.SetRange(s, at, put); got != want || why != wantWhy {
		t.Fatalf("P11.1: SetRange(%q of %d, %d, %q of %d): %q of %d, %v; want %q of %d, %v", short(s), len(s), at, short(put), len(put), short(got), len(got), why, short(want), len(want), wantWhy)
	}
}

func wantBit(t *testing.T, s string, i int64, want int) {
	t.Helper()
	if got := text.Bit(s, i); got != want {
		t.Fatalf("P11.2: Bit(%q, %d): %d, want %d", short(s), i, got, want)
	}
}

func wantSetBit(t *testing.T, s string, i int64, b int, want string, wantWas int, wantWhy api.Code) {
	t.Helper()
	if got, was, why := text.SetBit(s, i, b); got != want || was != wantWas || why != wantWhy {
		t.Fatalf("P11.2: SetBit(%q of %d, %d, %d): %q of %d, %d, %v; want %q of %d, %d, %v", short(s), len(s), i, b, short(got), len(got), was, why, short(want), len(want), wantWas, wantWhy)
	}
}

func wantIncr(t *testing.T, s string, by int64, want string, wantSum int64, wantWhy api.Code) {
	t.Helper()
	if got, sum, why := text.Incr(s, by); got != want || sum != wantSum || why != wantWhy {
		t.Fatalf("P11.3: Incr(%q, %d): %q, %d, %v; want %q, %d, %v", short(s), by, got, sum, why, want, wantSum, wantWhy)
	}
}
