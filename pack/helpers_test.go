package pack_test

import (
	"bytes"
	"encoding/binary"
	"math/rand"
	"slices"
	"strconv"
	"strings"
	"testing"

	"tallboy/api"
	"tallboy/pack"
)

// plain writes the entry of s as chapter 4 says it, by means that the program does not have.
func plain(s string) []byte {
	var body []byte
	n, err := strconv.ParseInt(s, 10, 64)
	number := err == nil && strconv.FormatInt(n, 10) == s
	switch {
	case number && n >= 0 && n <= 127:
		body = []byte{byte(n)}
	case number:
		body = binary.BigEndian.AppendUint64([]byte{0xf1}, uint64(n))
	case len(s) <= 63:
		body = []byte(string([]byte{0x80 + byte(len(s))}) + s)
	default:
		body = append(binary.BigEndian.AppendUint16([]byte{0xe0}, uint16(len(s))), s...)
	}
	return withBack(body)
}

// withBack lays a body's true back behind it.
func withBack(body []byte) []byte {
	if size := len(body); size >= 128 {
		return append(body, byte(size/128), byte(128+size%128))
	}
	return append(body, byte(len(body)))
}

// row has the entries of the texts, one behind the other.
func row(l ...string) []byte {
	var b []byte
	for _, s := range l {
		b = append(b, plain(s)...)
	}
	return b
}

// perhaps is the one text whose entry b may begin with: plain tells whether it does.
func perhaps(b []byte) string {
	head, n := 1, 0
	switch first := b[0]; {
	case first < 0x80:
		return strconv.Itoa(int(first))
	case first <= 0xbf:
		n = int(first) - 0x80
	case first == 0xe0 && len(b) > 3:
		head, n = 3, int(binary.BigEndian.Uint16(b[1:]))
	case first == 0xf1 && len(b) > 9:
		return strconv.FormatInt(int64(binary.BigEndian.Uint64(b[1:])), 10)
	}
	if n > api.MaxEntry {
		return ""
	}
	return string(b[head:min(len(b), head+n)])
}

// read has the texts of b, if b is entries one behind the other.
func read(b []byte) ([]string, bool) {
	var l []string
	for len(b) > 0 {
		s := perhaps(b)
		e := plain(s)
		if !bytes.HasPrefix(b, e) {
			return nil, false
		}
		l = append(l, s)
		b = b[len(e):]
	}
	return l, true
}

// made is a pack of these texts.
func made(t *testing.T, l ...string) *pack.Pack {
	t.Helper()
	p := pack.New()
	if why := p.Insert(0, l...); why != api.OK {
		t.Fatalf("P5.2: Insert of %d texts into nothing: %v", len(l), why)
	}
	return p
}

// wantTexts asks all that can be asked of a pack that has just these texts.
func wantTexts(t *testing.T, p *pack.Pack, l ...string) {
	t.Helper()
	b := row(l...)
	if p.Len() != len(l) || p.Size() != len(b) {
		t.Errorf("P5.1: Len %d, Size %d; want %d, %d", p.Len(), p.Size(), len(l), len(b))
	}
	if !slices.Equal(p.All(), l) {
		t.Errorf("P5.1: All: %.24q; want %.24q", p.All(), l)
	}
	back := slices.Clone(l)
	slices.Reverse(back)
	if !slices.Equal(p.Back(), back) {
		t.Errorf("P5.1: Back: %.24q; want %.24q", p.Back(), back)
	}
	if !bytes.Equal(p.Bytes(), b) {
		t.Errorf("P5.1: Bytes: % .24x; want % .24x", p.Bytes(), b)
	}
}

// wantRefused runs a call that must answer this code and leave the pack as it is.
func wantRefused(t *testing.T, p *pack.Pack, want api.Code, name string, call func() api.Code) {
	t.Helper()
	l := p.All()
	if why := call(); why != want {
		t.Errorf("P5.2: %s: %v, want %v", name, why, want)
	}
	wantTexts(t, p, l...)
}

// filled is a list of texts whose entries have just this many bytes, 65 or more.
func filled(size int) []string {
	var l []string
	for ; size > 8000; size -= 4101 {
		l = append(l, strings.Repeat("x", api.MaxEntry))
	}
	for ; size > 200; size -= 65 {
		l = append(l, strings.Repeat("y", 63))
	}
	for ; size > 65; size -= 2 {
		l = append(l, "7")
	}
	for _, n := range []int{size - 2, size - 4} {
		if s := strings.Repeat("z", n); len(plain(s)) == size {
			l = append(l, s)
		}
	}
	return l
}

// someTexts are the texts at each edge of an entry.
func someTexts() []string {
	l := []string{"", "0", "5", "127", "128", "-1", "9223372036854775807", "-9223372036854775808", "9223372036854775808", "007", "-0", "a", "ab", "\x00", "\x80", "\xff\x05\x01", "\x05\x01"}
	for _, n := range []int{62, 63, 64, 65, 124, 125, 126, 253, 4095, 4096} {
		l = append(l, strings.Repeat("x", n), strings.Repeat("\x81", n), strings.Repeat("1", n))
	}
	return l
}

// chanceTexts are some of someTexts, and some short ones that come up often.
func chanceTexts(r *rand.Rand, most int) []string {
	texts := someTexts()
	l := make([]string, r.Intn(most+1))
	for i := range l {
		l[i] = []string{"a", "b", "7", texts[r.Intn(len(texts))]}[r.Intn(4)]
	}
	return l
}
