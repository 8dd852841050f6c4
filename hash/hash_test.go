package hash_test

import (
	"math"
	"math/big"
	"math/rand"
	"strings"
	"testing"

	"tallboy/api"
	"tallboy/hash"
)

const (
	ones  = math.MaxUint64
	begin = 0xcbf29ce484222325 // a seed of this lets a hash begin at 0
	prime = 0x100000001b3
)

// number is n as one of any size.
func number(n uint64) *big.Int {
	return new(big.Int).SetUint64(n)
}

// power is 2 to the n-th.
func power(n uint) *big.Int {
	return new(big.Int).Lsh(big.NewInt(1), n)
}

// times is the product modulo 2^64, and whether it went over.
func times(a, b *big.Int) (*big.Int, bool) {
	whole := new(big.Int).Mul(a, b)
	return new(big.Int).Mod(whole, power(64)), whole.Cmp(power(64)) >= 0
}

// folded is h xor h / 2^n.
func folded(h *big.Int, n uint) *big.Int {
	return new(big.Int).Xor(h, new(big.Int).Div(h, power(n)))
}

// read is the chapter's words in numbers of any size: the hash, how many products of bytes went over 2^64, and whether the last product did.
func read(seed uint64, s string) (uint64, int, bool) {
	h := new(big.Int).Xor(number(begin), number(seed))
	over := 0
	for _, c := range []byte(s) {
		var went bool
		h, went = times(h.Xor(h, big.NewInt(int64(c))), number(prime))
		if went {
			over++
		}
	}
	h, last := times(folded(h, 32), number(0x9e3779b97f4a7c15))
	return folded(h, 29).Uint64(), over, last
}

// everyByte is a text of each byte once.
func everyByte() string {
	var b []byte
	for c := range 256 {
		b = append(b, byte(c))
	}
	return string(b)
}

// chanceText is a text of any bytes, of fewer than most.
func chanceText(r *rand.Rand, most int) string {
	b := make([]byte, r.Intn(most))
	r.Read(b)
	return string(b)
}

// seeds are the ends, each single bit and its opposite, what lies about the hash's beginning, and some more.
func seeds() []uint64 {
	l := []uint64{0, 1, ones, ones - 1, 12345, begin, begin ^ 1, begin ^ ones, math.MaxInt64}
	for shift := range 64 {
		l = append(l, 1<<shift, ones^1<<shift)
	}
	r := rand.New(rand.NewSource(6))
	for range 50 {
		l = append(l, r.Uint64()>>r.Intn(64))
	}
	return l
}

func wantOf(t *testing.T, seed uint64, s string, want uint64) {
	t.Helper()
	if got := hash.Of(seed, s); got != want {
		t.Errorf("P6.1: Of(%#x, %.24q of %d bytes): %#x, want %#x", seed, s, len(s), got, want)
	}
}

func wantLow(t *testing.T, h uint64, bits int, want uint64) {
	t.Helper()
	if got := hash.Low(h, bits); got != want {
		t.Errorf("P6.1: Low(%#x, %d): %#x, want %#x", h, bits, got, want)
	}
}

func wantSeven(t *testing.T, h uint64, want byte) {
	t.Helper()
	if got := hash.Seven(h); got != want {
		t.Errorf("P6.1: Seven(%#x): %d, want %d", h, got, want)
	}
}

// P6.1: Of, by numbers that were worked out elsewhere.
func TestOf(t *testing.T) {
	for _, c := range []struct {
		seed uint64
		s    string
		want uint64
	}{
		{0, "", 0x8570e250fe4c2473},
		{1, "", 0xe739689c6f4bfe1a},
		{ones, "", 0x9c8bc8d33195706b},
		{begin, "", 0},
		{begin, "\x00", 0},
		{begin ^ 'a', "a", 0},
		{0, "\x00", 0x71d92418536132d1},
		{1, "\x00", 0xa24fcf2293af20dc},
		{ones, "\x00", 0x7fffe7ac36448c5f},
		{0, "\xff", 0x28fbdd7e7eb5ec33},
		{1, "\xff", 0xe3193b54e060106e},
		{ones, "\xff", 0x9f7abb09828a96b7},
		{0, "\x7f", 0xaf3e5c9083ecc0e5},
		{0, "\x80", 0x96142717fbe26915},
		{0, "a", 0x82b19d9859a61322},
		{1, "a", 0xdceb4248056dfe18},
		{ones, "a", 0xe2b55e0f77478019},
		{1 << 63, "a", 0xc256dba0de9c22f6},
		{12345, "a", 0xd2e406c87d3249f0},
		{0, "ab", 0xb43c19b545c52d76},
		{0, "ba", 0x1cf321650b19f8c8},
		{0, "\x00\x00", 0x0651cb401b570433},
		{0, "a\x00", 0x6a1481fdad289a68},
		{0, "\x00a", 0xaab57dba964b43df},
		{0, "foobar", 0x66c9939d606cda7f},
		{1, "foobar", 0x29991baad98cf37b},
		{ones, "foobar", 0x90f6393a1bc518f3},
	} {
		wantOf(t, c.seed, c.s, c.want)
	}
}

// P6.1: Of takes bytes, not runes, valid or not, and all of them however many there are.
func TestOfOddAndLongTexts(t *testing.T) {
	for _, c := range []struct {
		seed uint64
		s    string
		want uint64
	}{
		{0, "\u00e9", 0x499e0a6c880df608},
		{0, "\xe9", 0xf55e99e5cd65b91b},
		{0, "\ufffd", 0x97e7ab0532e7cea9},
		{0, "\xff\xfe", 0x4f22dfb644a7b9a2},
		{0, "\xc3", 0x16426b6957ce72b9},
		{1, "\xed\xa0\x80", 0xa10a81d4d5639056},
		{ones, "\xf4\x90\x80\x80x", 0x9e8ad3b15fbb5188},
		{0, strings.Repeat("a", api.MaxKey), 0xadb3f221ebeea492},
		{1, strings.Repeat("a", api.MaxKey+1), 0x2e271eb73f528ae0},
		{ones, strings.Repeat("\xff", api.MaxText), 0x397ad14cea5385d8},
		{0, strings.Repeat("\x00", 1<<20), 0x48e0cb45cf4880e3},
		{0, strings.Repeat(everyByte(), 257), 0xc8da08f801e8bac2},
	} {
		wantOf(t, c.seed, c.s, c.want)
	}
}

// P6.1: Of against the chapter's words, in numbers of any size: every seed with short texts, each single byte, and texts of chance.
func TestOfByWords(t *testing.T) {
	texts := []string{"", "a", "ab", "\x00", "\xff", "\xff\xfe", "key:1", "\u65e5\u672c", "some longer text of many bytes", everyByte()}
	for _, seed := range seeds() {
		for _, s := range texts {
			want, _, _ := read(seed, s)
			wantOf(t, seed, s, want)
		}
	}
	for c := range 256 {
		for _, seed := range []uint64{0, 1, ones} {
			s := string([]byte{byte(c)})
			want, _, _ := read(seed, s)
			wantOf(t, seed, s, want)
		}
	}
	r := rand.New(rand.NewSource(61))
	for range 500 {
		seed, s := r.Uint64(), chanceText(r, 300)
		want, _, _ := read(seed, s)
		wantOf(t, seed, s, want)
	}
}

// P6.1: the products just below 2^64 and just above it, of a byte and of the end.
func TestOfGoesOver(t *testing.T) {
	const most = ones / prime // the greatest number whose product with prime does not go over
	for _, c := range []struct {
		seed uint64
		s    string
		over int
		last bool
	}{
		{begin, "", 0, false},
		{begin ^ 1, "", 0, false},
		{begin ^ 2, "", 0, true},
		{0, "", 0, true},
		{ones, "", 0, true},
		{begin ^ most, "\x00", 0, true},
		{begin ^ (most + 1), "\x00", 1, true},
		{begin ^ most ^ 0xff, "\xff", 0, true},
		{begin ^ (most + 1) ^ 0xff, "\xff", 1, true},
		{begin ^ ones, "\x00", 1, true},
		{begin, "\x01", 0, true},
		{begin, "\x01\x00", 1, true},
		{begin, "\x00\x00\x01\x00", 1, true},
		{0, "abcd", 4, true},
		{ones, strings.Repeat("\xff", 1000), 1000, true},
	} {
		want, over, last := read(c.seed, c.s)
		if over != c.over || last != c.last {
			t.Errorf("P6.1: Of(%#x, %.24q) is no test of what goes over: %d, %t", c.seed, c.s, over, last)
		}
		wantOf(t, c.seed, c.s, want)
	}
}

// P6.1: every step can be undone, so of one text no two seeds have one hash.
func TestOfTwoSeeds(t *testing.T) {
	for _, s := range []string{"", "a", "\x00", "\xff", "foobar", everyByte(), strings.Repeat("z", api.MaxKey)} {
		by := map[uint64]uint64{}
		for _, seed := range seeds() {
			h := hash.Of(seed, s)
			if other, ok := by[h]; ok && other != seed {
				t.Errorf("P6.1: Of(%#x, %.24q) is Of(%#x, ..): %#x", seed, s, other, h)
			}
			by[h] = seed
		}
	}
}

// P6.1: each byte tells, wherever it stands, and so does how many there are.
func TestOfTwoTexts(t *testing.T) {
	by := map[uint64]string{}
	tell := func(s string) {
		t.Helper()
		h := hash.Of(1, s)
		if other, ok := by[h]; ok {
			t.Errorf("P6.1: Of(1, %.24q) is Of(1, %.24q): %#x", s, other, h)
		}
		by[h] = s
	}
	for n := range 200 {
		tell(strings.Repeat("\x00", n))
	}
	plain := strings.Repeat("p", 100)
	for i := range plain {
		for _, c := range []string{"\x00", "q", "\xff"} {
			tell(plain[:i] + c + plain[i+1:])
		}
	}
}

// P6.1, R4: the answer hangs on the bytes alone, not on where they lie, nor on what was asked ahead.
func TestOfAgain(t *testing.T) {
	whole := "xfoobarx"
	for range 3 {
		wantOf(t, 0, whole[1:7], 0x66c9939d606cda7f)
		wantOf(t, 1, string([]byte(whole)[1:7]), 0x29991baad98cf37b)
		wantOf(t, 0, whole[:0], 0x8570e250fe4c2473)
		wantOf(t, 0, strings.Join([]string{"foo", "bar"}, ""), 0x66c9939d606cda7f)
	}
}

// P6.1: Low at every edge of bits that the chapter names, of 0, of all ones and of others.
func TestLow(t *testing.T) {
	const mixed = 0xfedcba987654a3c5
	for _, c := range []struct {
		bits            int
		ofOnes, ofMixed uint64
		ofHigh, ofByte  uint64 // of all bits but the lowest MaxDepth, and of ff
	}{
		{math.MinInt, 0, 0, 0, 0},
		{math.MinInt + 1, 0, 0, 0, 0},
		{-64, 0, 0, 0, 0},
		{-63, 0, 0, 0, 0},
		{-api.MaxDepth, 0, 0, 0, 0},
		{-1, 0, 0, 0, 0},
		{0, 0, 0, 0, 0},
		{1, 1, 1, 0, 1},
		{2, 3, 1, 0, 3},
		{3, 7, 5, 0, 7},
		{8, 0xff, 0xc5, 0, 0xff},
		{api.MaxDepth - 1, 0x7fff, 0x23c5, 0, 0xff},
		{api.MaxDepth, 0xffff, 0xa3c5, 0, 0xff},
		{api.MaxDepth + 1, 0xffff, 0xa3c5, 0, 0xff},
		{31, 0xffff, 0xa3c5, 0, 0xff},
		{32, 0xffff, 0xa3c5, 0, 0xff},
		{63, 0xffff, 0xa3c5, 0, 0xff},
		{64, 0xffff, 0xa3c5, 0, 0xff},
		{65, 0xffff, 0xa3c5, 0, 0xff},
		{256, 0xffff, 0xa3c5, 0, 0xff},
		{math.MaxInt32 + 1, 0xffff, 0xa3c5, 0, 0xff},
		{math.MaxInt - 1, 0xffff, 0xa3c5, 0, 0xff},
		{math.MaxInt, 0xffff, 0xa3c5, 0, 0xff},
	} {
		wantLow(t, 0, c.bits, 0)
		wantLow(t, ones, c.bits, c.ofOnes)
		wantLow(t, mixed, c.bits, c.ofMixed)
		wantLow(t, ones-0xffff, c.bits, c.ofHigh)
		wantLow(t, 0xff, c.bits, c.ofByte)
	}
}

// P6.1: Low against a remainder, at every number of bits about both ends.
func TestLowEverywhere(t *testing.T) {
	for _, h := range append(seeds(), hash.Of(0, "a"), hash.Of(1, "")) {
		for bits := -70; bits <= 140; bits++ {
			n := uint(min(max(bits, 0), 16))
			wantLow(t, h, bits, new(big.Int).Mod(number(h), power(n)).Uint64())
		}
	}
}

// P6.1: Seven of 0, of all ones, of each single bit, and of all bits but one.
func TestSeven(t *testing.T) {
	wantSeven(t, 0, 0)
	wantSeven(t, ones, 127)
	wantSeven(t, 1<<57-1, 0)
	wantSeven(t, ones-(1<<57-1), 127)
	for i := range 57 {
		wantSeven(t, 1<<i, 0)
		wantSeven(t, ones^1<<i, 127)
	}
	for i := range 7 {
		wantSeven(t, 1<<(57+i), 1<<i)
		wantSeven(t, ones^1<<(57+i), 127-1<<i)
	}
}

// P6.1: Seven tells each of its 128 numbers, whatever lies below it.
func TestSevenEverywhere(t *testing.T) {
	for top := range 128 {
		for _, below := range []uint64{0, 1, 1 << 56, 0x5555555555555555 % (1 << 57), 1<<57 - 1} {
			wantSeven(t, uint64(top)<<57|below, byte(top))
		}
	}
	for _, h := range append(seeds(), hash.Of(0, "a"), hash.Of(1, "")) {
		wantSeven(t, h, byte(new(big.Int).Div(number(h), power(57)).Uint64()))
	}
}
