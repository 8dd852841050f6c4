package value_test

import (
	"testing"

	"tallboy/api"
	"tallboy/value"
)

// changes are calls that each change a value of t0, t1 and so on, and its model.
var changes = map[string]func(v *value.Value, w *model){
	"a new one":  func(v *value.Value, w *model) { add(v, w, "new", "1") },
	"a number":   func(v *value.Value, w *model) { add(v, w, "7", "7") },
	"a long one": func(v *value.Value, w *model) { add(v, w, longest, longest) },
	"one away":   func(v *value.Value, w *model) { drop(v, w, "t0") },
	"another":    func(v *value.Value, w *model) { drop(v, w, "t0"); add(v, w, "t_", "t0") },
	"many":       func(v *value.Value, w *model) { addAll(v, w, names(900)[300:]) },
	"all away":   func(v *value.Value, w *model) { dropAll(v, w, names(300)) },
	"all anew":   func(v *value.Value, w *model) { dropAll(v, w, names(300)); addAll(v, w, reversed(names(301))) },
	"same again": func(v *value.Value, w *model) { add(v, w, "t0", "t0, but another") },
}

func addAll(v *value.Value, w *model, l []string) {
	for _, s := range l {
		add(v, w, s, s)
	}
}

func dropAll(v *value.Value, w *model, l []string) {
	for _, s := range l {
		drop(v, w, s)
	}
}

// P15.1: a copy has the same things, and its Encoding; it is another value, whose hash, set or list is another one.
func TestCopy(t *testing.T) {
	for _, kind := range kinds {
		for _, l := range someLimits() {
			for _, n := range []int{0, 1, 2, 3, 4, 40} {
				v, w := filled(kind, 7, l, names(n)...)
				was := told(v)
				c := v.Copy()
				wantValue(t, c, w)
				wantSame(t, v, c, true, "a copy")
				if c == v || c.Encoding() != v.Encoding() || kind == api.Hash && c.Hash == v.Hash || kind == api.Set && c.Set == v.Set || kind == api.List && c.List == v.List {
					t.Fatalf("P15.1: Copy of a %s of %d is not by itself", v.Type(), n)
				}
				if told(v) != was {
					t.Fatalf("P15.1: Copy turned a %s", v.Type())
				}
			}
		}
	}
}

// P15.1: what is done to a copy is not seen in the value, and what is done to a value is not seen in its copies; packed and not.
func TestCopyByItself(t *testing.T) {
	for _, kind := range kinds {
		for _, l := range []api.Limits{{}, limits(3, 9), limits(200, 60), limits(512, 60)} {
			for _, n := range []int{1, 3, 200, 300} {
				for name, change := range changes {
					v, w := filled(kind, 1, l, names(n)...)
					was := told(v)
					c, cw := v.Copy(), w.copied()
					change(c, cw)
					wantValue(t, c, cw)
					wantValue(t, v, w)
					if told(v) != was {
						t.Fatalf("P15.1: %s in a copy is seen in its %s", name, v.Type())
					}
					d, dw := v.Copy(), w.copied()
					before := told(d)
					change(v, w)
					wantValue(t, v, w)
					wantValue(t, d, dw)
					wantValue(t, c, cw)
					if told(d) != before {
						t.Fatalf("P15.1: %s in a %s is seen in its copy", name, v.Type())
					}
					wantSame(t, v, c, true, "changed alike")
				}
			}
		}
	}
}

// P15.1: a copy goes on by the limits that the value was made with.
func TestCopyGoesOn(t *testing.T) {
	for _, kind := range collections {
		for _, l := range someLimits() {
			v, w := filled(kind, 1, l, "")
			c, cw := v.Copy(), w.copied()
			for _, s := range names(5) {
				add(c, cw, s, "")
				wantValue(t, c, cw)
			}
			add(c, cw, sized(1, 61), "")
			wantValue(t, c, cw)
			wantValue(t, v, w)
		}
	}
}

// P15.1: a copy of what was upgraded and emptied, and a copy's copy.
func TestCopyOfEmptied(t *testing.T) {
	for _, kind := range collections {
		v, w := filled(kind, 1, limits(2, 9), names(50)...)
		dropAll(v, w, names(50))
		c := v.Copy().Copy()
		wantValue(t, c, w)
		if !c.Empty() || c.Len() != 0 {
			t.Errorf("P15.1: a copy of an empty %s: Len %d, Empty %t", v.Type(), c.Len(), c.Empty())
		}
		cw := w.copied()
		add(c, cw, "a", "b")
		wantValue(t, c, cw)
		wantValue(t, v, w)
	}
}

// R3: a copy has nothing in the fields that its Kind gives no meaning, even if somebody laid something there.
func TestCopyOfOthers(t *testing.T) {
	laid := value.Value{Text: "t", Hash: made(api.Hash, 1, limits(1, 1), "a").Hash, Set: made(api.Set, 1, limits(1, 1), "a").Set, List: made(api.List, 1, limits(1, 1), "a").List}
	for _, kind := range kinds {
		v := laid
		v.Kind = kind
		wantFields(t, v.Copy(), kind)
		if v.Len() != 1 || v.Copy().Len() != 1 {
			t.Errorf("P15.1: Kind %d: Len %d, of its copy %d", kind, v.Len(), v.Copy().Len())
		}
	}
}

// P15.1: a String's copy has its text when the String's is another.
func TestCopyOfString(t *testing.T) {
	for _, s := range someTexts() {
		v := value.OfText(s)
		c := v.Copy()
		v.Text = "turned"
		wantValue(t, c, &model{kind: api.String, text: s})
		c.Text = "turned, too"
		wantValue(t, v, &model{kind: api.String, text: "turned"})
	}
}
