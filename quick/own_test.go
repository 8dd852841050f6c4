package quick_test

import (
	"math/rand"
	"slices"
	"testing"

	"tallboy/api"
	"tallboy/quick"
)

// P12.2: a copy has the same texts, and goes on with as many a pack.
func TestCopy(t *testing.T) {
	for _, most := range mosts() {
		for _, texts := range [][]string{nil, {"a"}, names(3), names(40), someTexts()} {
			l := made(t, most, texts...)
			c := l.Copy()
			wantTexts(t, c, most, texts...)
			c.Right(texts...)
			c.Left(texts...)
			wantTexts(t, c, most, joined(reversed(texts), texts, texts)...)
			wantTexts(t, l, most, texts...)
		}
	}
}

// changes are calls that each change a list of "a", "b", "a", "c" and so on.
func changes() map[string]func(l *quick.List) {
	return map[string]func(l *quick.List){
		"Left":     func(l *quick.List) { l.Left("x", "y") },
		"Right":    func(l *quick.List) { l.Right("x", "y") },
		"PopLeft":  func(l *quick.List) { l.PopLeft() },
		"PopRight": func(l *quick.List) { l.PopRight() },
		"Set":      func(l *quick.List) { l.Set(1, "A") },
		"longer":   func(l *quick.List) { l.Set(-1, longest) },
		"Insert":   func(l *quick.List) { l.Insert("b", "x", true) },
		"Remove":   func(l *quick.List) { l.Remove("a", 1) },
		"last":     func(l *quick.List) { l.Remove("a", -1) },
		"Trim":     func(l *quick.List) { l.Trim(1, -2) },
		"nothing":  func(l *quick.List) { l.Trim(1, 0) },
	}
}

// P12.2: what is done to a copy is not seen in the list, and what is done to the list is not seen in its copy.
func TestCopyByItself(t *testing.T) {
	for _, most := range mosts() {
		for _, n := range []int{1, 20, 700} {
			texts := slices.Repeat([]string{"a", "b", "a", "c"}, n)
			for name, change := range changes() {
				l := made(t, most, texts...)
				c, nodes := l.Copy(), l.Nodes()
				change(c)
				if slices.Equal(c.All(), texts) {
					t.Fatalf("%s changed nothing", name)
				}
				changed := c.All()
				wantTexts(t, l, most, texts...)
				if !slices.Equal(l.Nodes(), nodes) {
					t.Fatalf("P12.2: %s of the copy changed the packs of the list", name)
				}
				d := l.Copy()
				change(l)
				wantTexts(t, d, most, texts...)
				wantTexts(t, l, most, changed...)
				wantTexts(t, c, most, changed...)
			}
		}
	}
}

// P12.2: a copy stays when its list is emptied, and a copy's copy when the copy is.
func TestCopyStays(t *testing.T) {
	for _, most := range mosts() {
		l := made(t, most, names(50)...)
		c := l.Copy()
		d := c.Copy()
		for range 50 {
			l.PopLeft()
			c.PopRight()
		}
		wantTexts(t, l, most)
		wantTexts(t, c, most)
		wantTexts(t, d, most, names(50)...)
	}
}

// R2: lists that are handed in are not changed, their spare room included, and not kept.
func TestHandedIn(t *testing.T) {
	for _, most := range mosts() {
		for name, put := range map[string]func(*quick.List, ...string) api.Code{"Left": (*quick.List).Left, "Right": (*quick.List).Right} {
			room := append(names(30), "spare", "room")
			kept := slices.Clone(room)
			l := quick.New(most)
			put(l, room[:30]...)
			put(l, append(room[:29:29], tooLong)...)
			if !slices.Equal(room, kept) {
				t.Errorf("R2: %s changed its texts: %v", name, room)
			}
			want := l.All()
			for i := range room {
				room[i] = "other"
			}
			wantTexts(t, l, most, want...)
		}
	}
}

// R2: answers are by themselves, their spare room too.
func TestAnswersByThemselves(t *testing.T) {
	for _, most := range mosts() {
		l := made(t, most, names(30)...)
		for _, get := range []func() []string{l.All, func() []string { return l.Range(3, 20) }, func() []string { return l.Range(0, 0) }} {
			first, second := get(), get()
			want := slices.Clone(first)
			for i := range first[:cap(first)] {
				first[:cap(first)][i] = "other"
			}
			if !slices.Equal(second, want) || !slices.Equal(get(), want) {
				t.Errorf("R2: an answer is seen elsewhere")
			}
		}
		nodes := l.Nodes()
		for i := range nodes[:cap(nodes)] {
			nodes[:cap(nodes)][i] = -1
		}
		wantTexts(t, l, most, names(30)...)
	}
}

// R4: the same calls answer the same, the packs included; calls that only ask change nothing.
func TestAgain(t *testing.T) {
	for seed := range int64(20) {
		one, other := rand.New(rand.NewSource(seed)), rand.New(rand.NewSource(seed))
		most := int(seed % 7)
		l, m := quick.New(most), quick.New(most)
		var want []string
		for range 200 {
			play(t, other, m, want)
			want = play(t, one, l, want)
			m.At(3)
			m.Range(1, 5)
			m.All()
			m.Copy().Right("c")
			if !slices.Equal(l.All(), m.All()) || !slices.Equal(l.Nodes(), m.Nodes()) {
				t.Fatalf("R4: %s in %v, and %s in %v", brief(l.All()), l.Nodes(), brief(m.All()), m.Nodes())
			}
		}
	}
}
