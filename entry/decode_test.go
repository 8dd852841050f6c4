package entry_test

import (
	"bytes"
	"encoding/binary"
	"math"
	"math/rand"
	"strconv"
	"strings"
	"testing"

	"tallboy/api"
	"tallboy/entry"
)

// guarded runs a call with a copy of b that has filled spare room behind it, and asks that all of it stays as it was (R2, R5).
func guarded(t *testing.T, b []byte, call func(b []byte)) {
	t.Helper()
	room := append(append([]byte{}, b...), 1, 1, 0x80, 1, 5, 1, 0x83)
	kept := bytes.Clone(room)
	call(room[:len(b)])
	if !bytes.Equal(room, kept) {
		t.Errorf("R2: % x was changed", b)
	}
}

func wantDecode(t *testing.T, b []byte, at int, want string, wantNext int) {
	t.Helper()
	guarded(t, b, func(b []byte) {
		if s, next, why := entry.Decode(b, at); s != want || next != wantNext || why != api.OK {
			t.Errorf("P4.2: Decode(% .24x, %d): %.24q, %d, %v; want %.24q, %d", b, at, s, next, why, want, wantNext)
		}
	})
}

func wantNoDecode(t *testing.T, b []byte, at int) {
	t.Helper()
	guarded(t, b, func(b []byte) {
		if s, next, why := entry.Decode(b, at); s != "" || next != 0 || why != api.ErrForm {
			t.Errorf("P4.2: Decode(% .24x, %d): %.24q, %d, %v; want ErrForm", b, at, s, next, why)
		}
	})
}

func wantBack(t *testing.T, b []byte, end, want int) {
	t.Helper()
	guarded(t, b, func(b []byte) {
		if at, why := entry.Back(b, end); at != want || why != api.OK {
			t.Errorf("P4.2: Back(% .24x, %d): %d, %v; want %d", b, end, at, why, want)
		}
	})
}

func wantNoBack(t *testing.T, b []byte, end int) {
	t.Helper()
	guarded(t, b, func(b []byte) {
		if at, why := entry.Back(b, end); at != 0 || why != api.ErrForm {
			t.Errorf("P4.2: Back(% .24x, %d): %d, %v; want ErrForm", b, end, at, why)
		}
	})
}

// wantNeither asks that no entry stands in the whole of b, forth or back.
func wantNeither(t *testing.T, b []byte) {
	t.Helper()
	wantNoDecode(t, b, 0)
	wantNoBack(t, b, len(b))
}

// P4.3: each text by itself, and with other bytes ahead of it and behind it.
func TestThereAndBack(t *testing.T) {
	for _, s := range someTexts() {
		b, why := entry.Encode(s)
		if why != api.OK {
			t.Fatalf("P4.3: Encode(%.24q): %v", s, why)
		}
		wantDecode(t, b, 0, s, len(b))
		wantBack(t, b, len(b), 0)
		for _, beside := range []string{"\x00", "\x01", "\x80", "\xff\xff", "\x05\x01", "xyz"} {
			row := []byte(beside + string(b) + beside)
			wantDecode(t, row, len(beside), s, len(beside)+len(b))
			wantBack(t, row, len(beside)+len(b), len(beside))
		}
	}
}

// P4.2, P4.3: rows of several entries, forth from the beginning and back from the end.
func TestRows(t *testing.T) {
	r := rand.New(rand.NewSource(5))
	texts := someTexts()
	for range 300 {
		var row []byte
		var l []string
		at := []int{0}
		for range r.Intn(9) {
			s := texts[r.Intn(len(texts))]
			l = append(l, s)
			row = append(row, plain(s)...)
			at = append(at, len(row))
		}
		for i, s := range l {
			wantDecode(t, row, at[i], s, at[i+1])
		}
		for i := len(l); i > 0; i-- {
			wantBack(t, row, at[i], at[i-1])
		}
		wantNoDecode(t, row, len(row))
		wantNoBack(t, row, 0)
	}
}

// P4.2: places out of the bytes, and nothing at all.
func TestPlacesOutside(t *testing.T) {
	for _, b := range [][]byte{nil, {}, plain("5"), plain("128"), plain("ab"), plain(strings.Repeat("x", 200))} {
		for _, at := range []int{-1, -2, -len(b) - 1, len(b), len(b) + 1, len(b) + 2, math.MaxInt, math.MaxInt - 1, math.MinInt, math.MinInt + 1} {
			wantNoDecode(t, b, at)
		}
		for _, end := range []int{0, -1, -2, -len(b) - 1, len(b) + 1, len(b) + 2, math.MaxInt, math.MaxInt - 1, math.MinInt, math.MinInt + 1} {
			wantNoBack(t, b, end)
		}
	}
}

// P4.2: an entry that is cut off at any of its bytes, from either side, is none. The spare room behind it is not read, though the rest stands there (R5).
func TestCutOff(t *testing.T) {
	for _, s := range []string{"", "0", "127", "128", "-1", "ab", "007", strings.Repeat("x", 63), strings.Repeat("x", 64), strings.Repeat("x", 124), strings.Repeat("x", 125), strings.Repeat("y", 300), strings.Repeat("z", 4096)} {
		b := plain(s)
		for n := range b {
			if text, next, why := entry.Decode(b[:n], 0); text != "" || next != 0 || why != api.ErrForm {
				t.Errorf("P4.2: Decode of %d bytes of %.20q's: %.20q, %d, %v", n, s, text, next, why)
			}
		}
		for n := 1; n <= len(b); n++ {
			wantNoBack(t, b[n:], len(b)-n)
		}
	}
}

// P4.2: within an entry of bytes that begin and end none, no entry begins or ends.
func TestInTheMidst(t *testing.T) {
	for _, s := range []string{"128", "\xff\xff\xff\xff\xff", "abc", strings.Repeat("\xff", 64), strings.Repeat("\xff", 300)} {
		b := plain(s)
		for i := 1; i < len(b); i++ {
			wantNoDecode(t, b, i)
			wantNoBack(t, b, i)
		}
	}
	// What looks like entries within one is read as such, as the places that are given say.
	b := plain("\x05\x01\x80\x01")
	wantDecode(t, b, 1, "5", 3)
	wantDecode(t, b, 3, "", 5)
	wantBack(t, b, 5, 3)
	wantBack(t, b, 3, 1)
	wantBack(t, b, 6, 0)
	wantNoDecode(t, b, 2)
	wantNoBack(t, b, 2)
}

// withBack lays a body's true back behind it.
func withBack(body ...byte) []byte {
	if size := len(body); size >= 128 {
		return append(body, byte(size/128), byte(128+size%128))
	}
	return append(body, byte(len(body)))
}

// P4.2: a number is not written in eight bytes where one is enough.
func TestSmallNumbersWide(t *testing.T) {
	for n := range 128 {
		wantNeither(t, withBack(0xf1, 0, 0, 0, 0, 0, 0, 0, byte(n)))
	}
	wantDecode(t, withBack(0xf1, 0, 0, 0, 0, 0, 0, 0, 128), 0, "128", 10)
	wantDecode(t, withBack(0xf1, 0, 0, 0, 0, 0, 0, 1, 0), 0, "256", 10)
	wantDecode(t, withBack(0xf1, 1, 0, 0, 0, 0, 0, 0, 5), 0, "72057594037927941", 10)
	wantDecode(t, withBack(0xf1, 128, 0, 0, 0, 0, 0, 0, 0), 0, "-9223372036854775808", 10)
	wantDecode(t, withBack(0xf1, 127, 255, 255, 255, 255, 255, 255, 255), 0, "9223372036854775807", 10)
}

// P4.2: a number's text is not written as a text, one that only looks like it is.
func TestNumbersAsTexts(t *testing.T) {
	for _, s := range []string{"0", "5", "127", "128", "-1", "12345678", "-1234567", "9223372036854775807", "-9223372036854775808"} {
		wantNeither(t, withBack([]byte(string([]byte{0x80 + byte(len(s))})+s)...))
		wantNeither(t, withBack([]byte(string([]byte{0xe0, 0, byte(len(s))})+s)...))
	}
	for _, s := range []string{"-0", "00", "+1", "007", "-", "9223372036854775808", "-9223372036854775809"} {
		b := withBack([]byte(string([]byte{0x80 + byte(len(s))}) + s)...)
		wantDecode(t, b, 0, s, len(b))
	}
}

// P4.2: a length in two bytes is above 63, and not above MaxEntry.
func TestLengths(t *testing.T) {
	for _, n := range []int{0, 1, 2, 5, 62, 63, 64, 65, 124, 125, 4095, 4096, 4097, 4098, 8191, 8192, 16383, 32767, 65535} {
		s := strings.Repeat("x", n)
		b := withBack(append([]byte{0xe0, byte(n >> 8), byte(n)}, s...)...)
		if n < 64 || n > api.MaxEntry {
			// The back of a body that is too long for one may say anything: none is right.
			wantNeither(t, b)
			continue
		}
		wantDecode(t, b, 0, s, len(b))
		wantBack(t, b, len(b), 0)
	}
}

// P4.2: first bytes that mean nothing, whatever stands behind them.
func TestFirstBytes(t *testing.T) {
	for first := range 256 {
		if first <= 0xbf || first == 0xe0 || first == 0xf1 {
			continue
		}
		for n := range 140 {
			wantNeither(t, withBack(append([]byte{byte(first)}, strings.Repeat("x", n)...)...))
			wantNeither(t, withBack(append([]byte{byte(first)}, make([]byte, n)...)...))
		}
		wantNeither(t, withBack(append([]byte{byte(first), 0, 64}, strings.Repeat("x", 64)...)...))
	}
	wantNeither(t, withBack(append([]byte{0xc0}, strings.Repeat("x", 64)...)...))
}

// wantNotWhole asks that b is not one entry. Its last bytes may be the true back of another one within it.
func wantNotWhole(t *testing.T, b []byte) {
	t.Helper()
	wantNoDecode(t, b, 0)
	if at, why := entry.Back(b, len(b)); why == api.OK && at == 0 {
		t.Errorf("P4.2: Back(% .24x, %d): 0", b, len(b))
	}
}

// P4.2: a back that is not the body's length, in one byte and in two.
func TestWrongBacks(t *testing.T) {
	for _, s := range []string{"", "0", "5", "127", "128", "-1", "ab", strings.Repeat("x", 63), strings.Repeat("x", 64), strings.Repeat("x", 124), strings.Repeat("x", 125), strings.Repeat("x", 300), strings.Repeat("x", 4096)} {
		whole := plain(s)
		size := len(whole) - 1
		if size >= 128 {
			size--
		}
		body := whole[:size:size]
		for n := range 256 {
			if b := append(body, byte(n)); !bytes.Equal(b, whole) {
				wantNotWhole(t, b)
			}
		}
		if size < 128 {
			wantNeither(t, append(body, 0, byte(128+size)))
		}
	}
	for _, n := range []int{125, 126, 253, 300, 4096} {
		whole := plain(strings.Repeat("\xff", n))
		size := len(whole) - 2
		for high := range 256 {
			for _, low := range []int{0, 1, 127, 128, 129, 254, 255, size % 128, 128 + size%128} {
				b := append(whole[:size:size], byte(high), byte(low))
				if !bytes.Equal(b, whole) {
					wantNotWhole(t, b)
				}
			}
		}
	}
}

// P4.2: backs that tell more than there is, or an entry that ends elsewhere.
func TestBacksThatMislead(t *testing.T) {
	wantNoBack(t, []byte{200}, 1)
	wantNoBack(t, []byte{0x80}, 1)
	wantNoBack(t, []byte{0}, 1)
	wantNoBack(t, []byte{5, 1, 0}, 3)
	wantNoBack(t, []byte{1, 0x80}, 2)
	wantNoBack(t, []byte{255, 255}, 2)
	wantNoBack(t, []byte{127}, 1)
	wantNoBack(t, []byte{5, 1, 0, 0x82}, 4)
	wantNoBack(t, []byte{5, 0, 0x81}, 3)
	wantNoBack(t, []byte{5, 1, 2}, 3)
	wantNoBack(t, []byte{5, 1, 5, 1, 3}, 5)
	wantNoBack(t, []byte{5, 1, 3, 0x83}, 3)
	wantNoBack(t, []byte{0x82, 'a', 'b', 3}, 3)
	wantNoBack(t, []byte{0x82, 'a', 2, 3}, 3)
	wantBack(t, []byte{0x81, 'a', 2, 3}, 3, 0)
}

// perhaps has the texts of all entries that b may begin with: plain tells which one does.
func perhaps(b []byte) []string {
	var l []string
	if len(b) > 0 {
		l = append(l, strconv.Itoa(int(b[0])))
	}
	if len(b) >= 9 {
		l = append(l, strconv.FormatInt(int64(binary.BigEndian.Uint64(b[1:])), 10))
	}
	for n := 1; n <= len(b); n++ {
		l = append(l, string(b[1:n]))
	}
	for n := 3; n <= len(b); n++ {
		l = append(l, string(b[3:n]))
	}
	return l
}

// wantPlain holds Decode at the beginning and Back at the end of b against the texts that there may be.
func wantPlain(t *testing.T, b []byte) {
	t.Helper()
	wantAt := -1
	for at := range b {
		for _, s := range perhaps(b[at:]) {
			e := plain(s)
			if bytes.Equal(e, b[at:]) {
				wantAt = at
			}
			if at == 0 && bytes.HasPrefix(b, e) {
				wantDecode(t, b, 0, s, len(e))
			}
		}
	}
	// Of entries that end at one place there is but one, as the last bytes tell its length.
	if wantAt >= 0 {
		wantBack(t, b, len(b), wantAt)
	} else {
		wantNoBack(t, b, len(b))
	}
	if s, next, why := entry.Decode(b, 0); why == api.OK && !bytes.Equal(plain(s), b[:next]) {
		t.Errorf("P4.2: Decode(% x): %q, %d", b, s, next)
	} else if why != api.OK {
		wantNoDecode(t, b, 0)
	}
}

// P4.2: every row of up to two bytes, and rows of chance of bytes that mean something.
func TestAnyBytes(t *testing.T) {
	for x := range 256 {
		wantPlain(t, []byte{byte(x)})
		for y := range 256 {
			wantPlain(t, []byte{byte(x), byte(y)})
		}
	}
	some := []byte{0, 1, 2, 3, 4, 5, 9, 10, 64, 127, '0', '1', '-', 'a', 0x80, 0x81, 0x82, 0x83, 0x84, 0x89, 0xbf, 0xc0, 0xe0, 0xf1, 0xff}
	r := rand.New(rand.NewSource(6))
	for range 60000 {
		b := make([]byte, r.Intn(13))
		for i := range b {
			b[i] = some[r.Intn(len(some))]
		}
		wantPlain(t, b)
	}
}

// P4.2: entries with one byte changed to each other one.
func TestOneByteChanged(t *testing.T) {
	for _, s := range []string{"", "0", "7", "127", "128", "-1", "1234567890", "a", "007", "-0", "-x1"} {
		b := plain(s)
		for i := range b {
			for x := range 256 {
				wantPlain(t, changed(b, i, x))
			}
		}
	}
	for _, s := range []string{strings.Repeat("x", 63), strings.Repeat("1", 64)} {
		b := plain(s)
		for _, i := range []int{0, 1, 2, 3, len(b) - 2, len(b) - 1} {
			for _, x := range []int{0, 1, 62, 63, 64, 65, 66, 67, 68, 0x80, 0xbe, 0xbf, 0xc0, 0xdf, 0xe0, 0xe1, 0xf1, 0xff} {
				wantPlain(t, changed(b, i, x))
			}
		}
	}
}

// changed is a copy of b with one other byte.
func changed(b []byte, i, x int) []byte {
	b = bytes.Clone(b)
	b[i] = byte(x)
	return b
}

// R2: a text that was told stays as it is, though the bytes that it was read from are changed.
func TestDecodeNewMemory(t *testing.T) {
	for _, s := range []string{"5", "128", "ab", "\xff\x00", strings.Repeat("x", 64), strings.Repeat("x", 4096)} {
		b := plain(s)
		got, _, why := entry.Decode(b, 0)
		for i := range b {
			b[i] = 'q'
		}
		if got != s || why != api.OK {
			t.Errorf("R2: the text of %.20q became %.20q, %v", s, got, why)
		}
	}
}
