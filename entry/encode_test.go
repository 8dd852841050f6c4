package entry_test

import (
	"bytes"
	"encoding/binary"
	"math"
	"math/rand"
	"strconv"
	"strings"
	"testing"

	"tallboy/api"
	"tallboy/entry"
)

// plain writes the entry of s as P4.1 says it, by means that the package does not have.
func plain(s string) []byte {
	var body []byte
	n, err := strconv.ParseInt(s, 10, 64)
	number := err == nil && strconv.FormatInt(n, 10) == s
	switch {
	case number && n >= 0 && n <= 127:
		body = []byte{byte(n)}
	case number:
		body = binary.BigEndian.AppendUint64([]byte{0xf1}, uint64(n))
	case len(s) <= 63:
		body = []byte(string([]byte{0x80 + byte(len(s))}) + s)
	default:
		body = append(binary.BigEndian.AppendUint16([]byte{0xe0}, uint16(len(s))), s...)
	}
	if size := len(body); size >= 128 {
		return append(body, byte(size/128), byte(128+size%128))
	}
	return append(body, byte(len(body)))
}

// someTexts are the texts at each edge of the chapter, and many of chance.
func someTexts() []string {
	l := []string{"", "0", "1", "5", "127", "128", "-1", "-127", "-128", "255", "256", "-0", "+1", "00", "007", "-01", " 1", "1 ", "1.0", "0x1", "\x00", "\x80", "\xff", "\xf1", "\xe0", "-",
		strconv.FormatInt(math.MaxInt64, 10), strconv.FormatInt(math.MinInt64, 10), "9223372036854775808", "-9223372036854775809"}
	for _, n := range []int{1, 2, 62, 63, 64, 65, 123, 124, 125, 126, 127, 128, 252, 253, 254, 255, 256, 257, 4094, 4095, 4096} {
		l = append(l, strings.Repeat("x", n), strings.Repeat("\xff", n), strings.Repeat("\x00", n), strings.Repeat("1", n))
	}
	r := rand.New(rand.NewSource(4))
	for range 400 {
		l = append(l, strconv.FormatInt(int64(r.Uint64())>>r.Intn(64), 10), chanceText(r))
	}
	return l
}

// chanceText is mostly short, of any bytes.
func chanceText(r *rand.Rand) string {
	b := make([]byte, r.Intn([]int{3, 25, 70, 300, api.MaxEntry + 1}[r.Intn(5)]))
	for i := range b {
		b[i] = byte(r.Intn(256))
	}
	return string(b)
}

func wantEncode(t *testing.T, s string, want ...byte) {
	t.Helper()
	b, why := entry.Encode(s)
	if why != api.OK || !bytes.Equal(b, want) {
		t.Errorf("P4.1: Encode(%.24q): % .24x, %v; want % .24x", s, b, why, want)
	}
	if size := entry.Size(s); size != len(want) {
		t.Errorf("P4.2: Size(%.24q): %d, want %d", s, size, len(want))
	}
}

// P4.1: a number of 0 to 127 is its own body.
func TestEncodeSmallNumbers(t *testing.T) {
	for n := range 128 {
		wantEncode(t, strconv.Itoa(n), byte(n), 1)
	}
}

// P4.1: every other number has eight bytes, the highest first.
func TestEncodeOtherNumbers(t *testing.T) {
	wantEncode(t, "128", 0xf1, 0, 0, 0, 0, 0, 0, 0, 128, 9)
	wantEncode(t, "255", 0xf1, 0, 0, 0, 0, 0, 0, 0, 255, 9)
	wantEncode(t, "256", 0xf1, 0, 0, 0, 0, 0, 0, 1, 0, 9)
	wantEncode(t, "-1", 0xf1, 255, 255, 255, 255, 255, 255, 255, 255, 9)
	wantEncode(t, "-128", 0xf1, 255, 255, 255, 255, 255, 255, 255, 128, 9)
	wantEncode(t, "72623859790382856", 0xf1, 1, 2, 3, 4, 5, 6, 7, 8, 9)
	wantEncode(t, "9223372036854775807", 0xf1, 127, 255, 255, 255, 255, 255, 255, 255, 9)
	wantEncode(t, "-9223372036854775808", 0xf1, 128, 0, 0, 0, 0, 0, 0, 0, 9)
}

// P4.1: a text of at most 63 bytes, digits too that are no number.
func TestEncodeShortTexts(t *testing.T) {
	wantEncode(t, "", 0x80, 1)
	wantEncode(t, "ab", 130, 97, 98, 3)
	wantEncode(t, "-", 0x81, '-', 2)
	wantEncode(t, "-0", 0x82, '-', '0', 3)
	wantEncode(t, "+1", 0x82, '+', '1', 3)
	wantEncode(t, "00", 0x82, '0', '0', 3)
	wantEncode(t, "007", 0x83, '0', '0', '7', 4)
	wantEncode(t, "-01", 0x83, '-', '0', '1', 4)
	wantEncode(t, " 1", 0x82, ' ', '1', 3)
	wantEncode(t, "1 ", 0x82, '1', ' ', 3)
	wantEncode(t, "\x00\x7f\x80\xff", 0x84, 0, 0x7f, 0x80, 0xff, 5)
	wantEncode(t, "9223372036854775808", append(append([]byte{0x93}, "9223372036854775808"...), 20)...)
	wantEncode(t, "-9223372036854775809", append(append([]byte{0x94}, "-9223372036854775809"...), 21)...)
	wantEncode(t, strings.Repeat("\xff", 63), append(append([]byte{0xbf}, strings.Repeat("\xff", 63)...), 64)...)
	wantEncode(t, strings.Repeat("1", 63), append(append([]byte{0xbf}, strings.Repeat("1", 63)...), 64)...)
}

// P4.1: a longer text has its length in two bytes, and its body's length in one or two.
func TestEncodeLongTexts(t *testing.T) {
	for n, c := range map[int]struct{ length, back []byte }{
		64:   {[]byte{0, 64}, []byte{67}},
		124:  {[]byte{0, 124}, []byte{127}},
		125:  {[]byte{0, 125}, []byte{1, 128}},
		126:  {[]byte{0, 126}, []byte{1, 129}},
		252:  {[]byte{0, 252}, []byte{1, 255}},
		253:  {[]byte{0, 253}, []byte{2, 128}},
		255:  {[]byte{0, 255}, []byte{2, 130}},
		256:  {[]byte{1, 0}, []byte{2, 131}},
		4095: {[]byte{15, 255}, []byte{32, 130}},
		4096: {[]byte{16, 0}, []byte{32, 131}},
	} {
		for _, part := range []string{"x", "\x00", "\xff", "1"} {
			s := strings.Repeat(part, n)
			want := append([]byte{0xe0}, c.length...)
			want = append(append(want, s...), c.back...)
			wantEncode(t, s, want...)
		}
	}
}

// P4.1, P4.2: a text above MaxEntry is refused, a number's digits too.
func TestEncodeTooLong(t *testing.T) {
	for _, n := range []int{api.MaxEntry + 1, api.MaxEntry + 2, 1 << 16, 1<<16 + 1, 1<<16 + api.MaxEntry, 1 << 20} {
		for _, part := range []string{"x", "\xff", "0", "1"} {
			s := strings.Repeat(part, n)
			if b, why := entry.Encode(s); why != api.ErrLong || len(b) > 0 {
				t.Errorf("P4.1: Encode of %d bytes: %d bytes, %v", n, len(b), why)
			}
			if size := entry.Size(s); size != 0 {
				t.Errorf("P4.2: Size of %d bytes: %d", n, size)
			}
		}
	}
}

// P4.1, P4.2: all texts, of each length up to MaxEntry too, by the words of the chapter.
func TestEncodeAll(t *testing.T) {
	for _, s := range someTexts() {
		wantEncode(t, s, plain(s)...)
	}
	for n := range api.MaxEntry + 1 {
		s := strings.Repeat("z", n)
		wantEncode(t, s, plain(s)...)
	}
	for n := int64(-1000); n <= 1000; n++ {
		s := strconv.FormatInt(n, 10)
		wantEncode(t, s, plain(s)...)
	}
}

// R2: what is answered is new each time, with its spare room.
func TestEncodeNewMemory(t *testing.T) {
	for _, s := range someTexts() {
		b, _ := entry.Encode(s)
		b = b[:cap(b)]
		for i := range b {
			b[i] = 0xaa
		}
		wantEncode(t, s, plain(s)...)
	}
}
