package sset_test

import (
	"fmt"
	"math/rand"
	"slices"
	"strings"
	"testing"

	"tallboy/api"
	"tallboy/sset"
)

// of is a set of these members.
func of(l api.Limits, members ...string) *sset.Set {
	s := sset.New(3, l)
	for _, m := range members {
		s.Add(m)
	}
	return s
}

// holders are the members of these lists, each with how many of them have it.
func holders(lists [][]string) map[string]int {
	n := map[string]int{}
	for _, l := range lists {
		for _, m := range l {
			n[m]++
		}
	}
	return n
}

// several is what Inter, Union and Diff of sets with these members tell, sorted.
func several(lists [][]string) (inter, union, diff []string) {
	for m, n := range holders(lists) {
		union = append(union, m)
		if n == len(lists) {
			inter = append(inter, m)
		}
		if n == 1 && slices.Contains(lists[0], m) {
			diff = append(diff, m)
		}
	}
	return sorted(inter), sorted(union), sorted(diff)
}

// shown is what a set has, in its order, and one Scan and one Pick of it.
func shown(s *sset.Set) string {
	l, next := s.Scan(1, 5)
	m, _ := s.Pick(1 << 40)
	return fmt.Sprint(s.Len(), s.Packed(), next, len(l), " ", m) + strings.Join(append(s.All(), l...), "\x00")
}

// wantSeveral asks all three of these sets, and that none of them, nor the list that has them, is turned.
func wantSeveral(t *testing.T, name string, sets ...*sset.Set) {
	t.Helper()
	var lists [][]string
	var was []string
	for _, s := range sets {
		if s == nil {
			lists, was = append(lists, nil), append(was, "")
			continue
		}
		lists, was = append(lists, s.All()), append(was, shown(s))
	}
	room := append(slices.Clone(sets), of(api.Limits{}, "behind"), nil)
	kept := slices.Clone(room)
	given := room[:len(sets)]
	inter, union, diff := several(lists)
	for range 2 {
		if got := sset.Inter(given...); !slices.Equal(sorted(got), inter) {
			t.Fatalf("P14.2: %s: Inter of %d: %s, want %s", name, len(sets), brief(got), brief(inter))
		}
		if got := sset.Union(given...); !slices.Equal(sorted(got), union) {
			t.Fatalf("P14.2: %s: Union of %d: %s, want %s", name, len(sets), brief(got), brief(union))
		}
		if got := sset.Diff(given...); !slices.Equal(sorted(got), diff) {
			t.Fatalf("P14.2: %s: Diff of %d: %s, want %s", name, len(sets), brief(got), brief(diff))
		}
	}
	if !slices.Equal(room, kept) {
		t.Fatalf("R2: %s: the list of sets is turned", name)
	}
	for i, s := range sets {
		if s != nil && shown(s) != was[i] {
			t.Fatalf("R2: %s: a set that was handed in is turned", name)
		}
	}
}

// P14.2: cases, written out, of packed sets, of others, and of both together.
func TestSeveral(t *testing.T) {
	small, great := limits(512, 60), api.Limits{}
	for _, how := range [][3]api.Limits{{small, small, small}, {great, great, great}, {small, great, small}, {great, small, great}, {small, small, great}, {great, great, small}} {
		a, b, c := of(how[0], "x", "y", "1"), of(how[1], "y", "z", "1"), of(how[2], "1", "")
		none := of(how[2])
		for _, x := range []struct {
			name               string
			sets               []*sset.Set
			inter, union, diff string
		}{
			{"no set", nil, "", "", ""},
			{"an empty list", []*sset.Set{}, "", "", ""},
			{"nil", []*sset.Set{nil}, "", "", ""},
			{"nils", []*sset.Set{nil, nil, nil}, "", "", ""},
			{"one", []*sset.Set{a}, `"1" "x" "y"`, `"1" "x" "y"`, `"1" "x" "y"`},
			{"an empty one", []*sset.Set{none}, "", "", ""},
			{"two", []*sset.Set{a, b}, `"1" "y"`, `"1" "x" "y" "z"`, `"x"`},
			{"two, turned", []*sset.Set{b, a}, `"1" "y"`, `"1" "x" "y" "z"`, `"z"`},
			{"three", []*sset.Set{a, b, c}, `"1"`, `"" "1" "x" "y" "z"`, `"x"`},
			{"three, turned", []*sset.Set{c, b, a}, `"1"`, `"" "1" "x" "y" "z"`, `""`},
			{"the midst first", []*sset.Set{b, a, c}, `"1"`, `"" "1" "x" "y" "z"`, `"z"`},
			{"nil first", []*sset.Set{nil, a, b}, "", `"1" "x" "y" "z"`, ""},
			{"nil last", []*sset.Set{a, b, nil}, "", `"1" "x" "y" "z"`, `"x"`},
			{"nil between", []*sset.Set{a, nil, b}, "", `"1" "x" "y" "z"`, `"x"`},
			{"nil behind one", []*sset.Set{a, nil}, "", `"1" "x" "y"`, `"1" "x" "y"`},
			{"nil ahead of one", []*sset.Set{nil, a}, "", `"1" "x" "y"`, ""},
			{"nils about one", []*sset.Set{nil, a, nil}, "", `"1" "x" "y"`, ""},
			{"an empty one first", []*sset.Set{none, a}, "", `"1" "x" "y"`, ""},
			{"an empty one last", []*sset.Set{a, none}, "", `"1" "x" "y"`, `"1" "x" "y"`},
			{"an empty one and nil", []*sset.Set{none, nil}, "", "", ""},
			{"itself", []*sset.Set{a, a}, `"1" "x" "y"`, `"1" "x" "y"`, ""},
			{"itself, thrice", []*sset.Set{a, a, a}, `"1" "x" "y"`, `"1" "x" "y"`, ""},
			{"another and itself", []*sset.Set{b, a, b}, `"1" "y"`, `"1" "x" "y" "z"`, ""},
			{"its copy", []*sset.Set{a, a.Copy()}, `"1" "x" "y"`, `"1" "x" "y"`, ""},
			{"strangers", []*sset.Set{of(how[0], "x"), of(how[1], "y"), of(how[2], "z")}, "", `"x" "y" "z"`, `"x"`},
			{"parts", []*sset.Set{of(how[0], "x"), of(how[1], "x", "y"), of(how[2], "z", "y", "x")}, `"x"`, `"x" "y" "z"`, ""},
			{"like numbers", []*sset.Set{of(how[0], "7", "07", "-0"), of(how[1], "7", "+7", "0")}, `"7"`, `"+7" "-0" "0" "07" "7"`, `"-0" "07"`},
		} {
			for i, c := range []struct {
				got  []string
				want string
			}{{sset.Inter(x.sets...), x.inter}, {sset.Union(x.sets...), x.union}, {sset.Diff(x.sets...), x.diff}} {
				if got := strings.Trim(fmt.Sprintf("%q", sorted(c.got)), "[]"); got != c.want {
					t.Errorf("P14.2: %s of %s: %s, want %s", []string{"Inter", "Union", "Diff"}[i], x.name, got, c.want)
				}
			}
			wantSeveral(t, x.name, x.sets...)
		}
	}
}

// span is a set of the members from one place on to another.
func span(l api.Limits, from, to int) *sset.Set {
	return of(l, names(to)[from:]...)
}

// P14.2: sets of every size about few and many, packed and not, small ones against great ones.
func TestSeveralBySize(t *testing.T) {
	sizes := []int{0, 1, 63, 64, 65, 66, 512, 513, 1000}
	for _, l := range ways {
		for _, also := range ways {
			for _, n := range sizes {
				for _, m := range sizes {
					a, b := span(l, 0, n), span(also, n/2, n/2+m)
					wantSeveral(t, fmt.Sprint(n, " and ", m), a, b)
				}
			}
		}
	}
}

// P14.2: the smallest set at each place, with all that it has in the others, or nothing.
func TestSmallestAnywhere(t *testing.T) {
	for _, l := range ways {
		for _, also := range ways {
			for at := range 4 {
				for _, few := range []*sset.Set{span(also, 10, 15), span(also, 200, 205), span(also, 98, 103), of(also), nil} {
					sets := []*sset.Set{span(l, 0, 100), span(also, 0, 120), span(l, 5, 130)}
					wantSeveral(t, fmt.Sprint("the smallest at ", at), slices.Insert(sets, at, few)...)
				}
			}
		}
	}
}

// P14.2: members of 0 to MaxEntry bytes, of any bytes.
func TestSeveralTexts(t *testing.T) {
	texts := someTexts()
	for _, l := range ways {
		for _, also := range ways {
			wantSeveral(t, "texts", of(l, texts...), of(also, texts...))
			wantSeveral(t, "texts", of(l, texts[:40]...), of(also, texts[20:]...), of(l, texts[30:]...))
			for _, m := range texts {
				wantSeveral(t, "a text", of(l, texts...), of(also, m), of(l, m, "another"))
			}
		}
	}
}

// P14.2: sets that were upgraded and emptied, and such as wane.
func TestSeveralOfEmptied(t *testing.T) {
	a, b, c := span(api.Limits{}, 0, 300), span(limits(100, 60), 100, 400), span(limits(512, 60), 0, 400)
	for i := 0; a.Len() > 0; i++ {
		if i%20 == 0 {
			wantSeveral(t, "waning", a, b, c)
			wantSeveral(t, "waning", c, b, a)
		}
		m, _ := a.Pick(uint64(i))
		a.Remove(m)
		b.Remove(m)
	}
	wantSeveral(t, "emptied", a, b, c)
	wantSeveral(t, "emptied", b, a)
	wantSeveral(t, "emptied", a)
}

// P14.2: as many sets as you like.
func TestManySets(t *testing.T) {
	var sets []*sset.Set
	for i := range 300 {
		l := limits(i%40, 9)
		sets = append(sets, span(l, i/10, 60+i%20))
		if i%25 == 0 || i > 297 {
			wantSeveral(t, "many", sets...)
		}
	}
	wantSeveral(t, "many, and nil", append(sets, nil)...)
	same := slices.Repeat([]*sset.Set{sets[9]}, 255)
	wantSeveral(t, "one, many times", same...)
	wantSeveral(t, "nil, many times", make([]*sset.Set, 255)...)
}

// P14.2: sets by chance.
func TestSeveralByChance(t *testing.T) {
	r := rand.New(rand.NewSource(8))
	for range 400 {
		var sets []*sset.Set
		most := 1 + r.Intn(300)
		for range r.Intn(6) {
			if r.Intn(12) == 0 {
				sets = append(sets, nil)
				continue
			}
			s := sset.New(r.Uint64(), limits(r.Intn(200), r.Intn(6)))
			for range r.Intn(3 * most) {
				s.Add(fmt.Sprint(r.Intn(most)))
			}
			sets = append(sets, s)
			if r.Intn(4) == 0 {
				sets = append(sets, sets[r.Intn(len(sets))])
			}
		}
		wantSeveral(t, "by chance", sets...)
	}
}
