package value_test

import (
	"slices"
	"strings"
	"testing"

	"tallboy/api"
	"tallboy/value"
)

// P15.2, Example 2: nil is the Same as nil alone, not as what is empty.
func TestSameOfNil(t *testing.T) {
	wantSame(t, nil, nil, true, "nil and nil")
	wantSame(t, nil, value.OfText(""), false, "nil and the empty text")
	wantSame(t, nil, value.OfText("a"), false, "nil and a text")
	for _, kind := range kinds {
		for _, l := range ways {
			for _, n := range []int{0, 1, 5} {
				wantSame(t, nil, made(kind, 1, l, names(n)...), false, "nil and what is")
			}
		}
	}
}

// P15.2: values of unlike Kinds are not the Same, be they empty or have they the same texts.
func TestSameOfUnlikeKinds(t *testing.T) {
	for _, a := range kinds {
		for _, b := range kinds {
			for _, n := range []int{0, 1, 5} {
				for _, l := range ways {
					wantSame(t, made(a, 1, l, names(n)...), made(b, 1, l, names(n)...), a == b, "each Kind")
				}
			}
		}
	}
	// One byte, one field, one member, one text.
	wantSame(t, value.OfText("a"), made(api.List, 1, limits(1, 1), "a"), false, "a text and a list")
	wantSame(t, made(api.Hash, 1, limits(1, 1), "a"), made(api.Set, 1, limits(1, 1), "a"), false, "a hash and a set")
	wantSame(t, made(api.Set, 1, limits(1, 1), "a"), made(api.List, 1, limits(1, 1), "a"), false, "a set and a list")
}

// P15.2: texts are the Same byte by byte.
func TestSameOfStrings(t *testing.T) {
	texts := []string{"", "a", "A", "b", "ab", "ba", "a ", " a", "a\x00", "\x00", "\x00\x00", "0", "00", "-0", "+0", "1", "01", "12", "\xff", "\xfe", "\u00e9", "e\u0301", strings.Repeat("x", 44), strings.Repeat("x", 45), strings.Repeat("x", 44) + "y", "y" + strings.Repeat("x", 44)}
	for i, a := range texts {
		for k, b := range texts {
			wantSame(t, value.OfText(a), value.OfText(strings.Clone(b)), i == k, a+" and "+b)
		}
	}
	if v := value.New(api.String, 1, limits(1, 1)); !value.Same(v, value.OfText("")) {
		t.Error("P15.2: New of a String is not the Same as OfText of the empty text")
	}
}

// P15.2: a value is the Same as itself, and as its copy, until one of them is changed.
func TestSameOfCopies(t *testing.T) {
	for _, kind := range kinds {
		for _, l := range []api.Limits{{}, limits(3, 9), limits(512, 60)} {
			for _, n := range []int{0, 1, 3, 4, 300} {
				v, w := filled(kind, 1, l, names(n)...)
				wantSame(t, v, v, true, "itself")
				c, cw := v.Copy(), w.copied()
				wantSame(t, v, c, true, "a copy")
				add(c, cw, "new", "1")
				wantSame(t, v, c, false, "a copy that has more")
				add(v, w, "new", "1")
				wantSame(t, v, c, true, "both have more")
				drop(v, w, "new")
				wantSame(t, v, c, false, "a copy that has more")
				drop(c, cw, "new")
				wantSame(t, v, c, true, "neither has more")
			}
		}
	}
}

// P15.2, W3: seeds, limits, encodings and the order in which things came make no difference to hashes and sets.
func TestSameHoweverKept(t *testing.T) {
	all := []api.Limits{{}, limits(-1, -1), limits(5, 60), limits(200, 2), limits(300, 60), limits(512, 60)}
	for _, kind := range []int{api.Hash, api.Set} {
		for _, n := range []int{0, 1, 2, 5, 6, 300} {
			texts := names(n)
			var l []*value.Value
			for i, lim := range all {
				l = append(l, made(kind, seeds[i%len(seeds)], lim, texts...), made(kind, 9, lim, reversed(texts)...), emptiedTo(kind, lim, texts))
			}
			for _, a := range l {
				for _, b := range l {
					wantSame(t, a, b, true, "however kept")
				}
			}
		}
	}
}

// emptiedTo is a value of these texts that has had many others, so that it is not packed.
func emptiedTo(kind int, l api.Limits, texts []string) *value.Value {
	v, w := both(kind, 5, l)
	addAll(v, w, names(700))
	dropAll(v, w, names(700))
	addAll(v, w, texts)
	return v
}

// P15.2: lists are the Same by their texts, however many each pack has, and from whichever end they came.
func TestSameOfListsHoweverKept(t *testing.T) {
	for _, n := range []int{0, 1, 2, 5, 6, 300} {
		texts := names(n)
		var l []*value.Value
		for _, most := range []int{-1, 0, 1, 2, 5, 100, 1000} {
			left := value.New(api.List, 1, limits(most, 1))
			left.List.Left(reversed(texts)...)
			l = append(l, made(api.List, 1, limits(most, 1), texts...), left, emptiedTo(api.List, limits(most, 60), texts))
		}
		for _, a := range l {
			for _, b := range l {
				wantSame(t, a, b, true, "however kept")
			}
		}
	}
}

// P15.2: hashes of the same fields with one unlike value, first, last or between; with values that have changed their places; of other fields.
func TestSameOfUnlikeHashes(t *testing.T) {
	for _, n := range []int{1, 2, 5, 300} {
		for _, la := range ways {
			for _, lb := range ways {
				for _, at := range []int{0, n / 2, n - 1} {
					a, _ := filled(api.Hash, 1, la, names(n)...)
					b, bw := filled(api.Hash, 2, lb, names(n)...)
					field := names(n)[at]
					for _, v := range []string{"", "other", field + " ", strings.ToUpper(field)} {
						add(b, bw, field, v)
						wantSame(t, a, b, false, "an unlike value")
					}
					add(b, bw, field, field)
					wantSame(t, a, b, true, "the same value again")
					drop(b, bw, field)
					wantSame(t, a, b, false, "a field less")
					add(b, bw, "other", field)
					wantSame(t, a, b, false, "an unlike field")
				}
			}
		}
	}
	for _, l := range ways {
		a, aw := filled(api.Hash, 1, l)
		b, bw := filled(api.Hash, 1, l)
		add(a, aw, "a", "1")
		add(a, aw, "b", "2")
		add(b, bw, "a", "2")
		add(b, bw, "b", "1")
		wantSame(t, a, b, false, "values of each other's fields")
		c, cw := filled(api.Hash, 1, l)
		add(c, cw, "1", "a")
		add(c, cw, "2", "b")
		wantSame(t, a, c, false, "values for fields")
	}
}

// P15.2: sets of the same number with one unlike member, and sets of which one has all of the other.
func TestSameOfUnlikeSets(t *testing.T) {
	for _, n := range []int{1, 2, 5, 300} {
		for _, la := range ways {
			for _, lb := range ways {
				for _, at := range []int{0, n / 2, n - 1} {
					a, _ := filled(api.Set, 1, la, names(n)...)
					b, bw := filled(api.Set, 2, lb, names(n)...)
					member := names(n)[at]
					drop(b, bw, member)
					wantSame(t, a, b, false, "a member less")
					for _, m := range []string{"", "other", member + " ", strings.ToUpper(member)} {
						add(b, bw, m, "")
						wantSame(t, a, b, false, "an unlike member")
						drop(b, bw, m)
					}
					add(b, bw, member, "")
					wantSame(t, a, b, true, "the same members again")
					add(b, bw, "other", "")
					wantSame(t, a, b, false, "a member more")
				}
			}
		}
	}
}

// P15.2: lists of the same texts in another order, with another text, with doubles.
func TestSameOfUnlikeLists(t *testing.T) {
	for _, la := range ways {
		for _, lb := range ways {
			lists := [][]string{{}, {""}, {"", ""}, {"a"}, {"b"}, {"a", "b"}, {"b", "a"}, {"ab"}, {"a", ""}, {"", "a"}, {"a", "a", "b"}, {"a", "b", "a"}, {"b", "a", "a"}, {"a", "b", "b"}, {"a", "b", "c"}, {"a", "c", "b"}, {"1"}, {"01"}, names(300), reversed(names(300)), names(301)}
			for i, a := range lists {
				for k, b := range lists {
					wantSame(t, made(api.List, 1, la, a...), made(api.List, 1, lb, b...), i == k, "lists")
				}
			}
			for _, at := range []int{0, 150, 299} {
				a, b := made(api.List, 1, la, names(300)...), made(api.List, 1, lb, names(300)...)
				b.List.Set(int64(at), "other")
				wantSame(t, a, b, false, "one unlike text")
			}
		}
	}
}

// P15.2: numbers in a pack are held against each other as texts.
func TestSameOfNumbers(t *testing.T) {
	texts := []string{"7", "07", "+7", "-7", "128", "0128", "9223372036854775807", "9223372036854775808", "-9223372036854775808", "-9223372036854775809", "0", "-0", ""}
	for _, kind := range collections {
		for i, a := range texts {
			for k, b := range texts {
				for _, la := range ways {
					for _, lb := range ways {
						wantSame(t, made(kind, 1, la, a), made(kind, 1, lb, b), i == k, a+" and "+b)
					}
				}
			}
		}
	}
}

// P15.2, R2: neither value is turned by Same, not even in an order that is free.
func TestSameTurnsNeither(t *testing.T) {
	for _, kind := range kinds {
		for _, l := range []api.Limits{{}, limits(3, 9), limits(512, 60)} {
			for _, n := range []int{1, 3, 4, 300} {
				texts := reversed(names(n))
				a, aw := filled(kind, 1, l, texts...)
				b, bw := filled(kind, 2, l, append(slices.Clone(texts[1:]), texts[0])...)
				toldA, toldB := told(a), told(b)
				first := value.Same(a, b)
				for range 3 {
					if value.Same(a, b) != first || value.Same(b, a) != first || !value.Same(a, a) {
						t.Fatalf("R4: Same of two %ss tells unlike things", a.Type())
					}
				}
				if told(a) != toldA || told(b) != toldB {
					t.Fatalf("P15.2: Same turned a %s", a.Type())
				}
				wantValue(t, a, aw)
				wantValue(t, b, bw)
			}
		}
	}
}
