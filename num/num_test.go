package num_test

import (
	"math"
	"math/big"
	"math/rand"
	"strconv"
	"strings"
	"testing"

	"tallboy/num"
)

// numbers are the ends, what lies around 0 and around each power of two and of ten, and some more.
func numbers() []int64 {
	l := []int64{0, math.MaxInt64, math.MaxInt64 - 1, math.MinInt64, math.MinInt64 + 1}
	for shift := range 63 {
		n := int64(1) << shift
		l = append(l, n-1, n, n+1, -n-1, -n, -n+1)
	}
	for n := int64(1); n < math.MaxInt64/10; n *= 10 {
		l = append(l, n*10-1, n*10, n*10+1, -n*10-1, -n*10, -n*10+1)
	}
	r := rand.New(rand.NewSource(2))
	for range 2000 {
		l = append(l, int64(r.Uint64())>>r.Intn(64))
	}
	return l
}

func wantParse(t *testing.T, s string, want int64, wantOK bool) {
	t.Helper()
	if n, ok := num.Parse(s); n != want || ok != wantOK {
		t.Errorf("P2.1: Parse(%q): %d, %t; want %d, %t", s, n, ok, want, wantOK)
	}
}

func wantCursor(t *testing.T, s string, want uint64, wantOK bool) {
	t.Helper()
	if n, ok := num.Cursor(s); n != want || ok != wantOK {
		t.Errorf("P2.2: Cursor(%q): %d, %t; want %d, %t", s, n, ok, want, wantOK)
	}
}

// P2.1: Format: decimal digits, a minus ahead below 0, and nothing else.
func TestFormat(t *testing.T) {
	for n, want := range map[int64]string{
		0: "0", 7: "7", -7: "-7", 10: "10", -10: "-10", 1234567890: "1234567890",
		math.MaxInt64: "9223372036854775807", math.MinInt64: "-9223372036854775808",
		math.MinInt64 + 1: "-9223372036854775807",
	} {
		if got := num.Format(n); got != want {
			t.Errorf("P2.1: Format(%d): %q", n, got)
		}
	}
	for _, n := range numbers() {
		if got, want := num.Format(n), strconv.FormatInt(n, 10); got != want {
			t.Errorf("P2.1: Format(%s): %q", want, got)
		}
	}
}

// P2.1: Parse takes what Format writes, and answers the number.
func TestParseTakesWhatFormatWrites(t *testing.T) {
	for _, n := range numbers() {
		wantParse(t, num.Format(n), n, true)
	}
	wantParse(t, "9223372036854775807", math.MaxInt64, true)
	wantParse(t, "9223372036854775806", math.MaxInt64-1, true)
	wantParse(t, "-9223372036854775808", math.MinInt64, true)
	wantParse(t, "-9223372036854775807", math.MinInt64+1, true)
	wantParse(t, "0", 0, true)
	wantParse(t, "-1", -1, true)
}

// P2.1: a number that another text could stand for has one text alone.
func TestParseRefusesOtherTextsOfNumbers(t *testing.T) {
	for _, n := range numbers() {
		s := strings.TrimPrefix(num.Format(n), "-")
		for _, other := range []string{"+" + s, "0" + s, "-0" + s, "+-" + s, "--" + s, " " + s, s + " ", s + "\n", s + ".", s + ".0", s + "e0", "0x" + s, s + "\x00"} {
			wantParse(t, other, 0, false)
		}
	}
	for _, s := range []string{"-0", "+0", "00", "-00", "007", "-007", "01", "-01", "+1", "1_000", "1,000", strings.Repeat("0", 30)} {
		wantParse(t, s, 0, false)
	}
}

// P2.1: numbers beyond the ends, the nearest ones and those that a wrapped product could be taken for.
func TestParseRefusesNumbersBeyondTheEnds(t *testing.T) {
	for _, s := range []string{
		"9223372036854775808", "9223372036854775809", "9223372036854775810", "10000000000000000000",
		"-9223372036854775809", "-9223372036854775810", "-9999999999999999999",
		"18446744073709551614", "18446744073709551615", "18446744073709551616", "18446744073709551617",
		"-18446744073709551615", "-18446744073709551616", "-18446744073709551617",
		"99999999999999999999", "-99999999999999999999", "36893488147419103232", "100000000000000000000",
		"340282366920938463463374607431768211456", "340282366920938463463374607431768211457",
		"+9223372036854775807", "+9223372036854775808", "+18446744073709551615",
	} {
		wantParse(t, s, 0, false)
	}
	wantParse(t, strings.Repeat("9", 100000), 0, false)
	wantParse(t, "-1"+strings.Repeat("0", 100000), 0, false)
}

// P2.1: texts that are no digits.
func TestParseRefusesWhatIsNoNumber(t *testing.T) {
	for _, s := range []string{"", "-", "+", "--", "- 1", "-+1", "1-", "1-1", "a", "1a", "a1", "1a1", "one", "\x00", "1\x001", "\xff", "1\xff", "\uff11", "\u0661", "NaN", "1/", "1:", "/", ":"} {
		wantParse(t, s, 0, false)
	}
}

// Each byte that is no digit is refused ahead of, between and behind digits: by both readers, but for the minus ahead that Parse takes.
func TestEveryByte(t *testing.T) {
	for b := range 256 {
		s := string([]byte{byte(b)})
		if b >= '0' && b <= '9' {
			wantParse(t, s, int64(b-'0'), true)
			wantCursor(t, s, uint64(b-'0'), true)
			continue
		}
		wantParse(t, s, 0, false)
		if b != '-' {
			wantParse(t, s+"12", 0, false)
		}
		wantParse(t, "1"+s+"2", 0, false)
		wantParse(t, "12"+s, 0, false)
		wantCursor(t, s, 0, false)
		wantCursor(t, s+"12", 0, false)
		wantCursor(t, "1"+s+"2", 0, false)
		wantCursor(t, "12"+s, 0, false)
	}
}

// P2.1: sums that fit, at both ends and between.
func TestAdd(t *testing.T) {
	for _, c := range []struct {
		a, b, want int64
		ok         bool
	}{
		{0, 0, 0, true}, {1, 2, 3, true}, {-1, -2, -3, true}, {5, -5, 0, true}, {-5, 5, 0, true}, {-7, 3, -4, true},
		{math.MaxInt64, 0, math.MaxInt64, true}, {math.MaxInt64 - 1, 1, math.MaxInt64, true}, {math.MaxInt64, -1, math.MaxInt64 - 1, true},
		{math.MinInt64, 0, math.MinInt64, true}, {math.MinInt64 + 1, -1, math.MinInt64, true}, {math.MinInt64, 1, math.MinInt64 + 1, true},
		{math.MaxInt64, math.MinInt64, -1, true}, {math.MaxInt64, -math.MaxInt64, 0, true},
		{math.MaxInt64, 1, 0, false}, {math.MaxInt64, math.MaxInt64, 0, false}, {1 << 62, 1 << 62, 0, false},
		{math.MinInt64, -1, 0, false}, {math.MinInt64, math.MinInt64, 0, false}, {-1 << 62, -1<<62 - 1, 0, false},
		{-1 << 62, -1 << 62, math.MinInt64, true}, {1 << 62, 1<<62 - 1, math.MaxInt64, true},
	} {
		for _, p := range [][2]int64{{c.a, c.b}, {c.b, c.a}} {
			if got, ok := num.Add(p[0], p[1]); got != c.want || ok != c.ok {
				t.Errorf("P2.1: Add(%d, %d): %d, %t", p[0], p[1], got, ok)
			}
		}
	}
}

// P2.1: sums, held against numbers without ends.
func TestAddAgainstGreatNumbers(t *testing.T) {
	l := numbers()
	r := rand.New(rand.NewSource(3))
	for range 20000 {
		a, b := l[r.Intn(len(l))], l[r.Intn(len(l))]
		sum := new(big.Int).Add(big.NewInt(a), big.NewInt(b))
		want := int64(0)
		if sum.IsInt64() {
			want = sum.Int64()
		}
		if got, ok := num.Add(a, b); got != want || ok != sum.IsInt64() {
			t.Errorf("P2.1: Add(%d, %d): %d, %t", a, b, got, ok)
		}
	}
}

// P2.1: every number but the least has a negative.
func TestNegate(t *testing.T) {
	for _, n := range numbers() {
		want, wantOK := -n, true
		if n == math.MinInt64 {
			want, wantOK = 0, false
		}
		if got, ok := num.Negate(n); got != want || ok != wantOK {
			t.Errorf("P2.1: Negate(%d): %d, %t", n, got, ok)
		}
	}
}

// P2.2: Unsigned: decimal digits, no zeros ahead; and Cursor reads them again.
func TestUnsigned(t *testing.T) {
	for _, n := range append(numbers(), -1, -2) {
		u := uint64(n)
		want := strconv.FormatUint(u, 10)
		if got := num.Unsigned(u); got != want {
			t.Errorf("P2.2: Unsigned(%s): %q", want, got)
		}
		wantCursor(t, want, u, true)
	}
	for u, want := range map[uint64]string{0: "0", 9: "9", 10: "10", 1 << 63: "9223372036854775808", math.MaxUint64: "18446744073709551615", 10000000000000000000: "10000000000000000000"} {
		if got := num.Unsigned(u); got != want {
			t.Errorf("P2.2: Unsigned(%s): %q", want, got)
		}
	}
}

// P2.2: zeros ahead count among the 20 digits, and do not matter else.
func TestCursorTakesZerosAhead(t *testing.T) {
	for _, n := range numbers() {
		s := strconv.FormatUint(uint64(n), 10)
		for len(s) < 20 {
			s = "0" + s
			wantCursor(t, s, uint64(n), true)
		}
		wantCursor(t, "0"+s, 0, false)
	}
	wantCursor(t, "00", 0, true)
	wantCursor(t, strings.Repeat("0", 20), 0, true)
	wantCursor(t, strings.Repeat("0", 21), 0, false)
	wantCursor(t, strings.Repeat("0", 100000)+"1", 0, false)
}

// P2.2: 20 digits at 2^64 - 1 and above it, and 21 digits.
func TestCursorAtItsEnd(t *testing.T) {
	wantCursor(t, "18446744073709551614", math.MaxUint64-1, true)
	wantCursor(t, "18446744073709551615", math.MaxUint64, true)
	for _, s := range []string{"18446744073709551616", "18446744073709551617", "18446744073709551619", "18446744073709551620", "18446744073709551625", "20000000000000000000", "99999999999999999999", "000000000000000000001", "018446744073709551615", "100000000000000000000", "184467440737095516150"} {
		wantCursor(t, s, 0, false)
	}
}

// P2.2: what is no row of digits.
func TestCursorRefusesWhatIsNoNumber(t *testing.T) {
	for _, s := range []string{"", "-", "+", "-0", "-1", "+1", " 1", "1 ", "a", "1a", "0x1", "1.0", "1e3", "\x00", "\xff", "\uff11", "1_0"} {
		wantCursor(t, s, 0, false)
	}
}
