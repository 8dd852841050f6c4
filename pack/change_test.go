package pack_test

import (
	"math"
	"math/rand"
	"slices"
	"strconv"
	"strings"
	"testing"

	"tallboy/api"
	"tallboy/pack"
)

var (
	longest = strings.Repeat("x", api.MaxEntry)
	tooLong = longest + "x"
)

// wantInsert inserts with a list that has filled spare room, and asks that the list stays as it was and that the pack does not hold on to it (R2).
func wantInsert(t *testing.T, p *pack.Pack, i int, s ...string) {
	t.Helper()
	want := slices.Insert(p.All(), i, s...)
	room := append(slices.Clone(s), "spare", "room")
	kept := slices.Clone(room)
	if why := p.Insert(i, room[:len(s)]...); why != api.OK {
		t.Errorf("P5.2: Insert(%d, %.24q): %v", i, s, why)
	}
	if !slices.Equal(room, kept) {
		t.Errorf("R2: Insert changed %.24q", s)
	}
	for i := range room {
		room[i] = "other"
	}
	wantTexts(t, p, want...)
}

func wantSet(t *testing.T, p *pack.Pack, i int, s string) {
	t.Helper()
	want := p.All()
	if i < 0 {
		want[len(want)+i] = s
	} else {
		want[i] = s
	}
	if why := p.Set(i, s); why != api.OK {
		t.Errorf("P5.2: Set(%d, %.24q): %v", i, s, why)
	}
	wantTexts(t, p, want...)
}

// P5.2: no text, one and several at the beginning, in the midst and at the end.
func TestInsert(t *testing.T) {
	for _, s := range [][]string{nil, {}, {"x"}, {""}, {"7"}, {"300"}, {"x", "y"}, {"1", "", "-1", strings.Repeat("x", 130), "z"}} {
		for _, l := range [][]string{nil, {"a"}, {"a", "b"}, {"a", "5", "", "d"}} {
			for i := range len(l) + 1 {
				wantInsert(t, made(t, l...), i, s...)
			}
		}
	}
	p := made(t, "b")
	wantInsert(t, p, 0, "a")
	wantInsert(t, p, 2, "d", "e")
	wantInsert(t, p, 2, "c")
	wantTexts(t, p, "a", "b", "c", "d", "e")
	wantInsert(t, p, 3, someTexts()...)
}

// P5.2: places where there is none to insert at. From the end nothing is counted here.
func TestInsertElsewhere(t *testing.T) {
	for _, l := range [][]string{nil, {"a"}, {"a", "b", "5"}} {
		p := made(t, l...)
		for _, i := range []int{len(l) + 1, len(l) + 2, -1, -2, -len(l), -len(l) - 1, math.MaxInt, math.MaxInt - 1, math.MinInt, math.MinInt + 1, p.Size() + 1} {
			if i == 0 {
				continue
			}
			for _, s := range [][]string{nil, {"x"}, {"x", "y"}, {tooLong}} {
				wantRefused(t, p, api.ErrIndex, "Insert elsewhere", func() api.Code { return p.Insert(i, s...) })
			}
		}
	}
}

// P5.2: a text of MaxEntry bytes is taken, one of one more is refused, and all that came with it.
func TestInsertTooLong(t *testing.T) {
	for _, l := range [][]string{nil, {"a"}, {"a", "b"}} {
		p := made(t, l...)
		for i := range len(l) + 1 {
			for _, s := range [][]string{{tooLong}, {"x", tooLong}, {tooLong, "x"}, {"x", tooLong, "y"}, {longest, tooLong, tooLong + "x"}, {strings.Repeat("1", api.MaxEntry+1)}, {strings.Repeat("z", 1<<17)}} {
				wantRefused(t, p, api.ErrLong, "Insert of too long a text", func() api.Code { return p.Insert(i, s...) })
			}
		}
		wantInsert(t, p, len(l), longest)
		wantInsert(t, p, 0, longest, "x", longest)
	}
}

// P5.2: a pack of just MaxPack bytes can be had, of one more it can not, by one text and by several.
func TestInsertMost(t *testing.T) {
	for _, free := range []int{2, 3, 4, 10, 65, 67, 68, 132, 200, 4101} {
		l := filled(api.MaxPack - free)
		for i, place := range []int{0, len(l) / 2, len(l)} {
			p := made(t, l...)
			for _, s := range [][]string{entriesOf(free + 1), append(entriesOf(free), ""), {longest, longest}, slices.Repeat([]string{""}, free)} {
				wantRefused(t, p, api.ErrFull, "Insert of too much", func() api.Code { return p.Insert(place, s...) })
			}
			// A text that is too long is told ahead of a pack that is full, a wrong place ahead of both.
			wantRefused(t, p, api.ErrLong, "Insert of too much", func() api.Code { return p.Insert(place, longest, longest, tooLong) })
			wantRefused(t, p, api.ErrIndex, "Insert of too much", func() api.Code { return p.Insert(-1, longest, longest, tooLong) })
			wantRefused(t, p, api.ErrIndex, "Insert of too much", func() api.Code { return p.Insert(len(l)+1, longest, longest) })
			wantInsert(t, p, place, entriesOf(free)...)
			if p.Size() != api.MaxPack {
				t.Errorf("P5.2: %d bytes, case %d", p.Size(), i)
			}
			wantRefused(t, p, api.ErrFull, "Insert into a full pack", func() api.Code { return p.Insert(place, "") })
			wantInsert(t, p, place)
		}
	}
	p := pack.New()
	much := filled(api.MaxPack + 1)
	wantRefused(t, p, api.ErrFull, "Insert of too much into nothing", func() api.Code { return p.Insert(0, much...) })
	wantRefused(t, p, api.ErrLong, "Insert of too much and too long", func() api.Code { return p.Insert(0, append(much, tooLong, "a")...) })
	wantRefused(t, p, api.ErrIndex, "Insert of too much elsewhere", func() api.Code { return p.Insert(1, append(much, tooLong)...) })
	wantInsert(t, p, 0, filled(api.MaxPack)...)
}

// entriesOf are texts whose entries have just this many bytes, in as few texts as can be.
func entriesOf(size int) []string {
	for n := range api.MaxEntry + 1 {
		if s := strings.Repeat("e", n); len(plain(s)) == size {
			return []string{s}
		}
	}
	return append(entriesOf(size-2), "1")
}

// P5.2: each place from both ends, by a longer, a shorter and an equal text.
func TestSet(t *testing.T) {
	l := []string{"ab", "5", "300", "", strings.Repeat("x", 63), strings.Repeat("y", 130), "cd"}
	for i := range l {
		for _, s := range []string{"zz", "", "z", "6", "-6", "12345678901234567890", strings.Repeat("z", 62), strings.Repeat("z", 63), strings.Repeat("z", 64), strings.Repeat("z", 130), longest, l[i]} {
			wantSet(t, made(t, l...), i, s)
			wantSet(t, made(t, l...), i-len(l), s)
		}
	}
	p := made(t, "only")
	wantSet(t, p, 0, longest)
	wantSet(t, p, -1, "")
}

// P5.2: places where there is none to set.
func TestSetElsewhere(t *testing.T) {
	for _, l := range [][]string{nil, {"a"}, {"a", "b"}, {"a", "5", strings.Repeat("x", 200)}} {
		p := made(t, l...)
		for _, i := range []int{len(l), len(l) + 1, 3, -len(l) - 1, -len(l) - 2, math.MaxInt, math.MaxInt - 1, math.MinInt, math.MinInt + 1} {
			wantRefused(t, p, api.ErrIndex, "Set elsewhere", func() api.Code { return p.Set(i, "x") })
			wantRefused(t, p, api.ErrIndex, "Set elsewhere", func() api.Code { return p.Set(i, tooLong) })
		}
	}
}

// P5.2: what Set refuses of the text itself, at every place.
func TestSetTooLong(t *testing.T) {
	p := made(t, "a", longest, "5")
	for _, i := range []int{0, 1, 2, -1, -2, -3} {
		for _, s := range []string{tooLong, strings.Repeat("1", api.MaxEntry+1), strings.Repeat("z", 1<<17)} {
			wantRefused(t, p, api.ErrLong, "Set of too long a text", func() api.Code { return p.Set(i, s) })
		}
		wantSet(t, p, i, longest)
	}
}

// P5.2: Set counts what it takes away: a text in a full pack can be set to one that is not longer.
func TestSetMost(t *testing.T) {
	for _, free := range []int{0, 1, 2, 50} {
		size := api.MaxPack - free - len(plain("abc"))
		for _, i := range []int{0, 5, -1} {
			l := filled(size)
			if i < 0 {
				l = append(l, "abc")
			} else {
				l = slices.Insert(l, i, "abc")
			}
			p := made(t, l...)
			most := strings.Repeat("m", 3+free)
			wantRefused(t, p, api.ErrFull, "Set of too much", func() api.Code { return p.Set(i, most+"m") })
			wantRefused(t, p, api.ErrFull, "Set of too much", func() api.Code { return p.Set(i, longest) })
			wantRefused(t, p, api.ErrLong, "Set of too much", func() api.Code { return p.Set(i, tooLong) })
			wantRefused(t, p, api.ErrIndex, "Set of too much", func() api.Code { return p.Set(len(l), longest) })
			wantSet(t, p, i, most)
			if p.Size() != api.MaxPack {
				t.Errorf("P5.2: %d bytes of a full pack", p.Size())
			}
			wantSet(t, p, i, strings.Repeat("n", 3+free))
			wantRefused(t, p, api.ErrFull, "Set in a full pack", func() api.Code { return p.Set(i, most+"m") })
			wantSet(t, p, i, "5")
			wantSet(t, p, i, most)
		}
	}
}

func wantDelete(t *testing.T, l []string, i, n, wantFrom, wantCount int) {
	t.Helper()
	p := made(t, l...)
	if got := p.Delete(i, n); got != wantCount {
		t.Errorf("P5.2: Delete(%d, %d) of %d: %d, want %d", i, n, len(l), got, wantCount)
	}
	wantTexts(t, p, slices.Delete(slices.Clone(l), wantFrom, wantFrom+wantCount)...)
}

// P5.2: as many as are asked for and as there are, from both ends.
func TestDelete(t *testing.T) {
	whole := []string{"ab", "5", "300", "", strings.Repeat("x", 130), "cd"}
	for size := range len(whole) + 1 {
		l := whole[:size]
		for i := range l {
			left := size - i
			for n := 1; n <= left; n++ {
				wantDelete(t, l, i, n, i, n)
				wantDelete(t, l, i-size, n, i, n)
			}
			for _, n := range []int{left + 1, left + 2, 1000, math.MaxInt - 1, math.MaxInt} {
				wantDelete(t, l, i, n, i, left)
				wantDelete(t, l, i-size, n, i, left)
			}
			for _, n := range []int{0, -1, -2, -size, math.MinInt, math.MinInt + 1} {
				wantDelete(t, l, i, n, 0, 0)
				wantDelete(t, l, i-size, n, 0, 0)
			}
		}
		for _, i := range []int{size, size + 1, -size - 1, -size - 2, math.MaxInt, math.MinInt, math.MinInt + 1} {
			for _, n := range []int{1, 2, 0, -1, size, size + 1, math.MaxInt, math.MinInt} {
				wantDelete(t, l, i, n, 0, 0)
			}
		}
	}
	p := made(t, "a", "b")
	p.Delete(-1, 5)
	wantTexts(t, p, "a")
}

// P5.2: room that was made can be filled again.
func TestDeleteMakesRoom(t *testing.T) {
	l := filled(api.MaxPack)
	p := made(t, l...)
	for _, i := range []int{0, len(l) / 2, len(l) - 1, -1} {
		s, _ := p.At(i)
		if got := p.Delete(i, 1); got != 1 {
			t.Errorf("P5.2: Delete(%d, 1): %d", i, got)
		}
		if i < 0 {
			i = p.Len()
		}
		wantInsert(t, p, i, s)
	}
	wantTexts(t, p, l...)
	if got := p.Delete(0, math.MaxInt); got != len(l) || p.Size() != 0 {
		t.Errorf("P5.2: Delete of all: %d, %d bytes are left", got, p.Size())
	}
	wantInsert(t, p, 0, l...)
}

// seek is what Find must tell, asked of every place.
func seek(l []string, s string, from, step int) int {
	if from < 0 || step < 1 {
		return -1
	}
	for i := range l {
		if i >= from && (i-from)%step == 0 && l[i] == s {
			return i
		}
	}
	return -1
}

func wantFind(t *testing.T, p *pack.Pack, s string, from, step, want int) {
	t.Helper()
	if got := p.Find(s, from, step); got != want {
		t.Errorf("P5.2: Find(%.24q, %d, %d): %d, want %d", s, from, step, got, want)
	}
}

// P5.2: the places that the chapter's words name, one by one.
func TestFind(t *testing.T) {
	p := made(t, "a", "b", "a", "5", "a", "", "128")
	for _, c := range []struct {
		s                string
		from, step, want int
	}{
		{"a", 0, 1, 0}, {"a", 1, 1, 2}, {"a", 3, 1, 4}, {"a", 4, 1, 4}, {"a", 5, 1, -1}, {"b", 0, 1, 1}, {"5", 0, 1, 3}, {"128", 0, 1, 6}, {"", 0, 1, 5}, {"", 6, 1, -1}, {"128", 6, 1, 6},
		{"b", 0, 2, -1}, {"5", 0, 2, -1}, {"5", 1, 2, 3}, {"a", 1, 2, -1}, {"a", 1, 3, 4}, {"", 1, 2, 5}, {"128", 0, 2, 6}, {"128", 0, 3, 6}, {"128", 0, 4, -1}, {"128", 0, 6, 6}, {"128", 0, 7, -1},
		{"c", 0, 1, -1}, {"aa", 0, 1, -1}, {"05", 0, 1, -1}, {"+5", 0, 1, -1}, {"\x05", 0, 1, -1}, {"\x05\x01", 0, 1, -1}, {longest, 0, 1, -1}, {tooLong, 0, 1, -1},
		{"a", -1, 1, -1}, {"a", -7, 1, -1}, {"128", -1, 1, -1}, {"a", math.MinInt, 1, -1}, {"a", 0, 0, -1}, {"a", 0, -1, -1}, {"a", 4, -2, -1}, {"a", 0, math.MinInt, -1}, {"a", -1, 0, -1},
		{"a", 7, 1, -1}, {"128", 7, 1, -1}, {"a", 8, 1, -1}, {"a", math.MaxInt, 1, -1}, {"a", math.MaxInt, math.MaxInt, -1}, {"b", 1, math.MaxInt, 1}, {"a", 1, math.MaxInt, -1}, {"b", 1, 8, 1}, {"5", 1, 8, -1}, {"a", 0, 8, 0}, {"128", 6, math.MaxInt, 6},
	} {
		wantFind(t, p, c.s, c.from, c.step, c.want)
	}
	wantTexts(t, p, "a", "b", "a", "5", "a", "", "128")
	wantFind(t, made(t, "x", longest), longest, 0, 1, 1)
	wantFind(t, made(t, "x", longest), tooLong, 0, 1, -1)
}

// P5.2: every from and step about many packs, against a plain look at every place.
func TestFindEverywhere(t *testing.T) {
	r := rand.New(rand.NewSource(3))
	for range 150 {
		l := chanceTexts(r, 9)
		p := made(t, l...)
		for _, s := range append(slices.Clone(l), "a", "7", "none") {
			for from := -2; from <= len(l)+2; from++ {
				for step := -2; step <= len(l)+2; step++ {
					wantFind(t, p, s, from, step, seek(l, s, from, step))
				}
			}
		}
	}
}

// play does one call of chance to a pack and to the list that it must have, and tells the list then.
func play(t *testing.T, r *rand.Rand, p *pack.Pack, l []string) []string {
	t.Helper()
	i := r.Intn(2*len(l)+5) - len(l) - 2
	place, there := i, i >= -len(l) && i < len(l)
	if i < 0 {
		place += len(l)
	}
	texts := chanceTexts(r, 4)
	if r.Intn(12) == 0 {
		texts = append(texts, tooLong)
	}
	switch r.Intn(5) {
	case 0, 1:
		want, to := api.OK, []string(nil)
		if i < 0 || i > len(l) {
			want = api.ErrIndex
		} else {
			want, to = judge(texts, slices.Insert(slices.Clone(l), i, texts...))
		}
		wantCode(t, "Insert", p.Insert(i, texts...), want)
		if want == api.OK {
			return to
		}
	case 2, 3:
		s := append(texts, "set")[0]
		want, to := api.ErrIndex, slices.Clone(l)
		if there {
			to[place] = s
			want, to = judge([]string{s}, to)
		}
		wantCode(t, "Set", p.Set(i, s), want)
		if want == api.OK {
			return to
		}
	default:
		n := r.Intn(6) - 1
		end := place
		if there {
			end = min(len(l), place+max(n, 0))
		}
		if got := p.Delete(i, n); got != end-place {
			t.Errorf("P5.2: Delete(%d, %d) of %d: %d, want %d", i, n, len(l), got, end-place)
		}
		if end > place {
			return slices.Delete(slices.Clone(l), place, end)
		}
	}
	return l
}

// judge tells what a call must answer that lays these texts, if the pack is to have those then.
func judge(texts, to []string) (api.Code, []string) {
	for _, s := range texts {
		if len(s) > api.MaxEntry {
			return api.ErrLong, nil
		}
	}
	if len(row(to...)) > api.MaxPack {
		return api.ErrFull, nil
	}
	return api.OK, to
}

func wantCode(t *testing.T, name string, got, want api.Code) {
	t.Helper()
	if got != want {
		t.Errorf("P5.2: %s: %v, want %v", name, got, want)
	}
}

// P5.1, P5.2, P5.3: many calls one behind the other, against plain lists, some of them about a pack that is nearly full.
func TestPlays(t *testing.T) {
	for seed := range 60 {
		r := rand.New(rand.NewSource(int64(seed)))
		p := pack.New()
		var l []string
		if seed%3 == 0 {
			l = filled(api.MaxPack - r.Intn(200))
			p = made(t, l...)
		}
		for range 40 {
			l = play(t, r, p, l)
			wantTexts(t, p, l...)
			q, why := pack.From(p.Bytes())
			if why != api.OK || !slices.Equal(q.All(), l) {
				t.Fatalf("P5.3: From of Bytes: %v", why)
			}
			if r.Intn(4) == 0 {
				p = q
			}
			if r.Intn(8) == 0 {
				p = p.Copy()
			}
		}
		if t.Failed() {
			t.Fatal("seed " + strconv.Itoa(seed))
		}
	}
}
