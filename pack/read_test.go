package pack_test

import (
	"bytes"
	"math"
	"math/rand"
	"slices"
	"strconv"
	"strings"
	"testing"

	"tallboy/api"
	"tallboy/pack"
)

// from runs From with a copy of b that has filled spare room behind it, and asks that all of it stays as it was (R2, R5).
func from(t *testing.T, b []byte) (*pack.Pack, api.Code) {
	t.Helper()
	room := append(bytes.Clone(b), 1, 1, 0x80, 1, 5, 1, 0x83)
	kept := bytes.Clone(room)
	p, why := pack.From(room[:len(b)])
	if !bytes.Equal(room, kept) {
		t.Errorf("R2: From changed % .24x", b)
	}
	return p, why
}

func wantFrom(t *testing.T, b []byte, l ...string) {
	t.Helper()
	p, why := from(t, b)
	if why != api.OK || p == nil {
		t.Errorf("P5.1: From(% .24x): %v", b, why)
		return
	}
	wantTexts(t, p, l...)
}

func wantNoFrom(t *testing.T, b []byte, want api.Code) {
	t.Helper()
	if p, why := from(t, b); why != want || p != nil {
		t.Errorf("P5.1: From(% .24x), %d bytes: %v, want %v and no pack", b, len(b), why, want)
	}
}

// wantFromAsRead holds From against the chapter's words written a second way.
func wantFromAsRead(t *testing.T, b []byte) {
	t.Helper()
	if l, ok := read(b); ok {
		wantFrom(t, b, l...)
	} else {
		wantNoFrom(t, b, api.ErrForm)
	}
}

// P5.1: a pack of nothing, however it was made.
func TestEmpty(t *testing.T) {
	one := made(t, "a")
	one.Delete(0, 1)
	fromNil, whyNil := pack.From(nil)
	fromNone, whyNone := pack.From([]byte{})
	if whyNil != api.OK || whyNone != api.OK {
		t.Fatalf("P5.1: From of nothing: %v, %v", whyNil, whyNone)
	}
	for _, p := range []*pack.Pack{pack.New(), fromNil, fromNone, one, pack.New().Copy(), made(t)} {
		wantTexts(t, p)
		for _, i := range []int{0, 1, -1, 2, -2, math.MaxInt, math.MinInt} {
			wantNoAt(t, p, i)
			if got := p.Delete(i, 1); got != 0 {
				t.Errorf("P5.2: Delete(%d, 1) of nothing: %d", i, got)
			}
			wantRefused(t, p, api.ErrIndex, "Set of nothing", func() api.Code { return p.Set(i, "a") })
		}
		if got := p.Find("", 0, 1); got != -1 {
			t.Errorf("P5.2: Find in nothing: %d", got)
		}
		if why := p.Insert(0, "b"); why != api.OK {
			t.Errorf("P5.2: Insert into nothing: %v", why)
		}
		wantTexts(t, p, "b")
	}
}

// P5.1: bytes of one entry and of several.
func TestFrom(t *testing.T) {
	wantFrom(t, []byte{5, 1}, "5")
	wantFrom(t, []byte{5, 1, 0x82, 'a', 'b', 3, 0x80, 1}, "5", "ab", "")
	for _, s := range someTexts() {
		wantFrom(t, row(s), s)
		wantFrom(t, row(s, s, "7", s), s, s, "7", s)
	}
	wantFrom(t, row(someTexts()...), someTexts()...)
}

// P5.1: bytes that are cut off are a pack where an entry ends, and nowhere else. The spare room behind them is not read, though the rest stands there (R5).
func TestFromCutOff(t *testing.T) {
	l := []string{"5", "ab", "128", "", strings.Repeat("\xff", 63), strings.Repeat("x", 64), strings.Repeat("y", 130), "\x05\x01"}
	b := row(l...)
	ends := map[int]int{}
	for i := range l {
		ends[len(row(l[:i]...))] = i
	}
	for n := range b {
		i, whole := ends[n]
		p, why := pack.From(b[:n])
		if whole && (why != api.OK || !slices.Equal(p.All(), l[:i])) {
			t.Errorf("P5.1: From of %d whole entries: %v", i, why)
		}
		if !whole && (why != api.ErrForm || p != nil) {
			t.Errorf("P5.1: From of %d bytes of %d: %v", n, len(b), why)
		}
		wantFromAsRead(t, b[n:])
	}
}

// P5.1: each byte turned to each other one.
func TestFromByteTurned(t *testing.T) {
	b := row("5", "ab", "128", "", "007", "-1", "x")
	for i := range b {
		for x := range 256 {
			turned := bytes.Clone(b)
			turned[i] = byte(x)
			wantFromAsRead(t, turned)
		}
	}
	b = row(strings.Repeat("x", 64), strings.Repeat("y", 130), "5")
	for i := range b {
		for _, x := range []int{0, 1, 2, 63, 64, 65, 127, 128, 130, 131, 0xbf, 0xc0, 0xe0, 0xf1, 0xff} {
			turned := bytes.Clone(b)
			turned[i] = byte(x)
			wantFromAsRead(t, turned)
		}
	}
}

// P5.1: bytes behind the last entry, and between two.
func TestFromBytesBeside(t *testing.T) {
	wantNoFrom(t, []byte{5}, api.ErrForm)
	for _, s := range []string{"5", "128", "ab", strings.Repeat("x", 130)} {
		b := row("a", s)
		for x := range 256 {
			wantNoFrom(t, append(bytes.Clone(b), byte(x)), api.ErrForm)
			wantNoFrom(t, append([]byte{byte(x)}, b...), api.ErrForm)
			wantFromAsRead(t, append(append(bytes.Clone(b), byte(x)), b...))
		}
	}
}

// P5.1: bytes that no Encode writes, by themselves and beside true entries.
func TestFromNoEncode(t *testing.T) {
	for _, body := range []string{
		"\xf1\x00\x00\x00\x00\x00\x00\x00\x05", "\xf1\x00\x00\x00\x00\x00\x00\x00\x7f", "\x815", "\x82-1", "\x83128", "\xe0\x00\x00", "\xe0\x00\x03abc",
		"\xe0\x00\x3f" + strings.Repeat("x", 63), "\xe0\x10\x01" + strings.Repeat("x", 4097), "\xc0" + strings.Repeat("x", 64), "\xc0", "\xdf", "\xe1\x00\x40" + strings.Repeat("x", 64), "\xf0", "\xf2", "\xff", "",
	} {
		b := withBack([]byte(body))
		wantNoFrom(t, b, api.ErrForm)
		wantNoFrom(t, append(row("5", "a"), b...), api.ErrForm)
		wantNoFrom(t, append(bytes.Clone(b), row("5", "a")...), api.ErrForm)
	}
	for _, b := range []string{"\x05\x00", "\x05\x02", "\x05\x00\x81", "\x05\x80", "\x82ab\x02", "\x82ab\x04", "\x05\x01\x80\x02", "\x05\x01\x80\x00\x05\x01"} {
		wantNoFrom(t, []byte(b), api.ErrForm)
	}
}

// P5.1: rows of chance of bytes that mean something.
func TestFromAnyBytes(t *testing.T) {
	some := []byte{0, 1, 1, 1, 2, 2, 3, 5, 9, 64, 127, '0', '1', '-', 'a', 0x80, 0x81, 0x82, 0xbf, 0xe0, 0xf1, 0xff}
	r := rand.New(rand.NewSource(1))
	for range 20000 {
		b := make([]byte, r.Intn(9))
		for i := range b {
			b[i] = some[r.Intn(len(some))]
		}
		wantFromAsRead(t, b)
	}
}

// P5.1: just MaxPack bytes are taken, one more is too many, whatever the bytes are.
func TestFromMost(t *testing.T) {
	for _, size := range []int{api.MaxPack - 1, api.MaxPack, api.MaxPack + 1, api.MaxPack + 2, 2 * api.MaxPack} {
		l := filled(size)
		b := row(l...)
		if len(b) != size {
			t.Fatalf("the test's own texts have %d bytes, not %d", len(b), size)
		}
		wrong := bytes.Clone(b)
		wrong[size-1]++
		if size <= api.MaxPack {
			wantFrom(t, b, l...)
			wantNoFrom(t, wrong, api.ErrForm)
			wantNoFrom(t, make([]byte, size), api.ErrForm)
			continue
		}
		wantNoFrom(t, b, api.ErrFull)
		wantNoFrom(t, wrong, api.ErrFull)
		wantNoFrom(t, make([]byte, size), api.ErrFull)
	}
	small := bytes.Repeat([]byte{5, 1}, api.MaxPack/2)
	if p, why := pack.From(small); why != api.OK || p.Len() != api.MaxPack/2 || p.Size() != api.MaxPack {
		t.Errorf("P5.1: From of as many entries as there may be: %v", why)
	}
}

func wantAt(t *testing.T, p *pack.Pack, i int, want string) {
	t.Helper()
	if s, ok := p.At(i); s != want || !ok {
		t.Errorf("P5.1: At(%d): %.24q, %v; want %.24q", i, s, ok, want)
	}
}

func wantNoAt(t *testing.T, p *pack.Pack, i int) {
	t.Helper()
	if s, ok := p.At(i); s != "" || ok {
		t.Errorf("P5.1: At(%d): %.24q, %v; want nothing", i, s, ok)
	}
}

// P5.1: each place from both ends, and those beyond them.
func TestAt(t *testing.T) {
	for _, l := range [][]string{{"a"}, {""}, {"5"}, {"a", "b"}, {"", ""}, {"a", "7", "a", "128", strings.Repeat("x", 200), ""}, someTexts()} {
		p := made(t, l...)
		for i, s := range l {
			wantAt(t, p, i, s)
			wantAt(t, p, i-len(l), s)
		}
		for _, i := range []int{len(l), len(l) + 1, -len(l) - 1, -len(l) - 2, p.Size(), -p.Size() - 1, math.MaxInt, math.MaxInt - 1, math.MinInt, math.MinInt + 1} {
			wantNoAt(t, p, i)
		}
		wantTexts(t, p, l...)
	}
}

// P5.1: bytes that look like entries or backs within a text are not taken for such.
func TestMisleadingTexts(t *testing.T) {
	l := []string{"\x05\x01", "\x81a\x02", "\x01\x01\x01\x01", "\x80\x01\x80\x01", strings.Repeat("\x05\x01", 100), strings.Repeat("\x01\x80", 80), string(row("in", "it")), "\x7f"}
	p := made(t, l...)
	wantTexts(t, p, l...)
	for i, s := range l {
		wantAt(t, p, i, s)
		wantAt(t, p, i-len(l), s)
	}
	wantFrom(t, p.Bytes(), l...)
}

// P5.3: a pack's bytes are a pack with the same texts, that can be changed like it.
func TestBytesAreThePack(t *testing.T) {
	r := rand.New(rand.NewSource(2))
	for range 200 {
		l := chanceTexts(r, 12)
		p := made(t, l...)
		q, why := from(t, p.Bytes())
		if why != api.OK {
			t.Fatalf("P5.3: From of Bytes of %.24q: %v", l, why)
		}
		wantTexts(t, q, l...)
		if p.Insert(len(l), "end"); q.Insert(len(l), "end") != api.OK || !slices.Equal(p.All(), q.All()) {
			t.Errorf("P5.3: %.24q became %.24q", p.All(), q.All())
		}
	}
}

// R2: what is done to the bytes that From was handed is not seen in the pack, and the other way round, their spare room included.
func TestFromByItself(t *testing.T) {
	l := []string{"a", "128", strings.Repeat("x", 100)}
	b := append(make([]byte, 0, 1000), row(l...)...)
	p, _ := pack.From(b)
	kept := bytes.Clone(b[:cap(b)])
	p.Insert(3, "behind")
	p.Set(0, "b")
	p.Delete(1, 1)
	if !bytes.Equal(b[:cap(b)], kept) {
		t.Error("R2: a change of the pack is seen in what From was handed")
	}
	overwrite(b)
	wantTexts(t, p, "b", l[2], "behind")
}

// R2: the same without spare room, where the pack has not yet been changed, and where a change fits in its place.
func TestFromByItselfInPlace(t *testing.T) {
	for _, change := range []func(p *pack.Pack){func(p *pack.Pack) {}, func(p *pack.Pack) { p.Set(0, "a") }, func(p *pack.Pack) { p.Delete(2, 1) }} {
		b := slices.Clip(row("b", "5", "c"))
		p, _ := pack.From(b)
		change(p)
		if !bytes.Equal(b, row("b", "5", "c")) {
			t.Errorf("R2: a change of the pack is seen in what From was handed: % x", b)
		}
		l := p.All()
		overwrite(b)
		wantTexts(t, p, l...)
	}
}

// overwrite turns every byte of b and of its spare room.
func overwrite(b []byte) {
	b = b[:cap(b)]
	for i := range b {
		b[i] ^= 0xff
	}
}

// R2: what is done to Bytes is not seen in the pack, and the other way round, also when the pack grows into room that it had.
func TestBytesByItself(t *testing.T) {
	for _, n := range []int{0, 1, 2, 3, 10, 50} {
		p := pack.New()
		var l []string
		for i := range n {
			s := strconv.Itoa(i * 50)
			p.Insert(i, s)
			l = append(l, s)
			overwrite(p.Bytes())
			wantTexts(t, p, l...)
		}
		b := p.Bytes()
		kept := bytes.Clone(b)
		room := bytes.Clone(b[:cap(b)])
		p.Insert(n, "new")
		p.Delete(0, 1)
		p.Insert(0, "first", "second")
		if !bytes.Equal(b, kept) || !bytes.Equal(b[:cap(b)], room) {
			t.Errorf("R2: a change of the pack is seen in Bytes")
		}
		if c := p.Bytes(); len(c) > 0 {
			overwrite(b)
			if !bytes.Equal(c, p.Bytes()) {
				t.Errorf("R2: two answers of Bytes share memory")
			}
		}
	}
}

// R2: a pack and its copy grow and shrink, each by itself.
func TestCopyByItself(t *testing.T) {
	for n := range 40 {
		p := pack.New()
		var l []string
		for i := range n {
			p.Insert(i, strconv.Itoa(i*40))
			l = append(l, strconv.Itoa(i*40))
		}
		c := p.Copy()
		wantTexts(t, c, l...)
		c.Insert(n, "c")
		p.Insert(n, "p")
		wantTexts(t, c, append(slices.Clone(l), "c")...)
		wantTexts(t, p, append(slices.Clone(l), "p")...)
		c.Set(0, "first")
		wantAt(t, p, 0, append(slices.Clone(l), "p")[0])
		p.Delete(0, n+1)
		wantTexts(t, p)
		if c.Len() != n+1 {
			t.Errorf("R2: the copy has %d texts, not %d", c.Len(), n+1)
		}
		wantAt(t, c, 0, "first")
		c.Delete(0, n+1)
		wantTexts(t, c)
	}
}

// R2: what is done to All and Back is not seen in the pack or in each other, and the other way round.
func TestListsByThemselves(t *testing.T) {
	l := []string{"a", "128", "", strings.Repeat("x", 100)}
	p := made(t, l...)
	for _, list := range []func() []string{p.All, p.Back} {
		first, second := list(), list()
		want := slices.Clone(second)
		first = first[:cap(first)]
		for i := range first {
			first[i] = "other"
		}
		if !slices.Equal(second, want) {
			t.Errorf("R2: two answers share memory: %q", second)
		}
		wantTexts(t, p, l...)
	}
	all, back := p.All(), p.Back()
	one, _ := p.At(3)
	p.Set(0, "z")
	p.Delete(1, 2)
	p.Set(-1, "q")
	slices.Reverse(back)
	if !slices.Equal(all, l) || !slices.Equal(back, l) || one != l[3] {
		t.Errorf("R2: a change of the pack is seen in %.24q, %.24q, %.24q", all, back, one)
	}
}
