package text_test

import (
	"math"
	"math/big"
	"math/rand"
	"strconv"
	"strings"
	"testing"

	"tallboy/api"
	"tallboy/num"
)

// addends are the ends of int64, what lies around 0 and around each power of two and of ten.
func addends() []int64 {
	l := []int64{0, math.MaxInt64, math.MaxInt64 - 1, math.MinInt64, math.MinInt64 + 1}
	for shift := 0; shift < 63; shift += 7 {
		n := int64(1) << shift
		l = append(l, n-1, n, n+1, -n-1, -n, -n+1)
	}
	for n := int64(1); n < math.MaxInt64/10; n *= 10 {
		l = append(l, n*10-1, n*10, -n*10, -n*10+1)
	}
	return l
}

// wantSum holds Incr of the text of a against a sum that has no end.
func wantSum(t *testing.T, a, by int64) {
	t.Helper()
	s := strconv.FormatInt(a, 10)
	sum := new(big.Int).Add(big.NewInt(a), big.NewInt(by))
	if !sum.IsInt64() {
		wantIncr(t, s, by, "", 0, api.ErrOver)
		return
	}
	wantIncr(t, s, by, sum.String(), sum.Int64(), api.OK)
}

// P11.3: Incr, written out.
func TestIncr(t *testing.T) {
	for _, c := range []struct {
		s    string
		by   int64
		want string
		sum  int64
	}{
		{"0", 0, "0", 0}, {"0", 1, "1", 1}, {"0", -1, "-1", -1}, {"9", 1, "10", 10}, {"10", -1, "9", 9}, {"-1", 1, "0", 0}, {"1", -1, "0", 0}, {"-10", 3, "-7", -7}, {"7", -10, "-3", -3}, {"41", 1, "42", 42}, {"5", 0, "5", 5},
	} {
		wantIncr(t, c.s, c.by, c.want, c.sum, api.OK)
	}
}

// P11.3: an empty text counts as 0, up to both ends.
func TestIncrOfNothing(t *testing.T) {
	for _, by := range addends() {
		wantIncr(t, "", by, strconv.FormatInt(by, 10), by, api.OK)
	}
}

// P11.3: Incr up to the ends of int64, and beyond them.
func TestIncrAtItsEnds(t *testing.T) {
	const most, least = "9223372036854775807", "-9223372036854775808"
	for _, c := range []struct {
		s    string
		by   int64
		want string
		sum  int64
	}{
		{most, 0, most, math.MaxInt64}, {least, 0, least, math.MinInt64},
		{"9223372036854775806", 1, most, math.MaxInt64}, {"-9223372036854775807", -1, least, math.MinInt64},
		{"1", math.MaxInt64 - 1, most, math.MaxInt64}, {"-1", math.MinInt64 + 1, least, math.MinInt64},
		{"0", math.MaxInt64, most, math.MaxInt64}, {"0", math.MinInt64, least, math.MinInt64},
		{most, math.MinInt64, "-1", -1}, {least, math.MaxInt64, "-1", -1}, {most, -1, "9223372036854775806", math.MaxInt64 - 1}, {least, 1, "-9223372036854775807", math.MinInt64 + 1},
	} {
		wantIncr(t, c.s, c.by, c.want, c.sum, api.OK)
	}
	for _, by := range []int64{1, 2, 1 << 32, math.MaxInt64 - 1, math.MaxInt64} {
		wantIncr(t, most, by, "", 0, api.ErrOver)
		wantIncr(t, least, -by, "", 0, api.ErrOver)
	}
	wantIncr(t, least, math.MinInt64, "", 0, api.ErrOver)
	wantIncr(t, "-1", math.MinInt64, "", 0, api.ErrOver)
	wantIncr(t, "1", math.MaxInt64, "", 0, api.ErrOver)
	wantIncr(t, "9223372036854775803", 5, "", 0, api.ErrOver)
}

// P11.3: sums of all pairs of numbers at the edges, and of numbers by chance.
func TestIncrEverywhere(t *testing.T) {
	for _, a := range addends() {
		for _, by := range addends() {
			wantSum(t, a, by)
		}
	}
	r := rand.New(rand.NewSource(114))
	for range 5000 {
		wantSum(t, int64(r.Uint64())>>r.Intn(64), int64(r.Uint64())>>r.Intn(64))
	}
}

// P11.3: a text that num.Parse refuses is no number, whatever should be added to it.
func TestIncrRefusesOtherTexts(t *testing.T) {
	for _, s := range []string{
		"x", "-", "+", "+1", "-0", "00", "007", "-07", " ", " 1", "1 ", "1\n", "\t1", "1.0", "1e3", "0x10", "1_000", "--1", "1-", "abc", "\x00", "1\x00", "\xff", "\uff11",
		"9223372036854775808", "-9223372036854775809", "18446744073709551616", "99999999999999999999", strings.Repeat("1", api.MaxText), strings.Repeat("0", api.MaxText+1),
	} {
		if _, ok := num.Parse(s); ok {
			t.Fatalf("P11.3: num.Parse takes %q", s)
		}
		for _, by := range []int64{0, 1, -1, 5, math.MaxInt64, math.MinInt64} {
			wantIncr(t, s, by, "", 0, api.ErrInt)
		}
	}
}

// P11.3: what Incr tells can be counted up again, there and back.
func TestIncrAgain(t *testing.T) {
	s := ""
	for i := range int64(300) {
		wantIncr(t, s, 1, strconv.FormatInt(i+1, 10), i+1, api.OK)
		s = strconv.FormatInt(i+1, 10)
	}
	for i := int64(300); i > -300; i-- {
		wantIncr(t, s, -1, strconv.FormatInt(i-1, 10), i-1, api.OK)
		s = strconv.FormatInt(i-1, 10)
	}
}
