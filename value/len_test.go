package value_test

import (
	"strings"
	"testing"

	"tallboy/api"
	"tallboy/value"
)

// P15.1: Len of a String is its bytes, and it is never Empty.
func TestLenOfString(t *testing.T) {
	for s, want := range map[string]int{"": 0, "a": 1, "\x00": 1, "12": 2, "\u00e9": 2, "\xff\xff\xff": 3, strings.Repeat("x", 44): 44, strings.Repeat("x", 45): 45, strings.Repeat("\u00e9", 200): 400, strings.Repeat("x", api.MaxText): api.MaxText} {
		v := value.OfText(s)
		if v.Len() != want || v.Empty() {
			t.Errorf("P15.1: %.20q: Len %d, want %d; Empty %t", s, v.Len(), want, v.Empty())
		}
		v.Text = ""
		if v.Len() != 0 || v.Empty() {
			t.Errorf("P15.1: a String that lost its text: Len %d, Empty %t", v.Len(), v.Empty())
		}
	}
	if v := value.New(api.String, 1, limits(5, 5)); v.Len() != 0 || v.Empty() {
		t.Errorf("P15.1: New of a String: Len %d, Empty %t", v.Len(), v.Empty())
	}
}

// P15.1: Len and Empty of collections that are empty, come to have one thing and more, and come to be empty again.
func TestLenOfCollections(t *testing.T) {
	for _, kind := range collections {
		for _, l := range someLimits() {
			v, w := both(kind, 1, l)
			wantValue(t, v, w)
			for i, s := range names(6) {
				add(v, w, s, s)
				wantValue(t, v, w)
				if v.Len() != i+1 || v.Empty() {
					t.Fatalf("P15.1: %s: Len %d, want %d; Empty %t", v.Type(), v.Len(), i+1, v.Empty())
				}
			}
			for _, s := range names(6) {
				drop(v, w, s)
				wantValue(t, v, w)
			}
			if v.Len() != 0 || !v.Empty() {
				t.Fatalf("P15.1: %s: Len %d, Empty %t", v.Type(), v.Len(), v.Empty())
			}
			add(v, w, "", "")
			wantValue(t, v, w)
			if v.Len() != 1 || v.Empty() {
				t.Fatalf("P15.1: a %s of the empty text: Len %d, Empty %t", v.Type(), v.Len(), v.Empty())
			}
		}
	}
}

// P15.1: what is there already does not count twice, but in a list.
func TestLenOfDoubles(t *testing.T) {
	for kind, want := range map[int]int{api.Hash: 2, api.Set: 2, api.List: 4} {
		for name, l := range ways {
			if v := made(kind, 1, l, "a", "b", "a", "a"); v.Len() != want {
				t.Errorf("P15.1: %s, %s: Len %d, want %d", v.Type(), name, v.Len(), want)
			}
		}
	}
}

// P15.1: Len of great ones.
func TestLenOfMany(t *testing.T) {
	for _, kind := range collections {
		for _, l := range []api.Limits{{}, limits(512, 60)} {
			for _, n := range []int{112, 113, 512, 513, 3000} {
				v, w := filled(kind, 3, l, names(n)...)
				wantValue(t, v, w)
			}
		}
	}
}
