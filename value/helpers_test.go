package value_test

import (
	"errors"
	"fmt"
	"maps"
	"math"
	"slices"
	"strconv"
	"strings"
	"testing"

	"tallboy/api"
	"tallboy/fault"
	"tallboy/value"
)

var (
	kinds       = []int{api.String, api.Hash, api.Set, api.List}
	collections = []int{api.Hash, api.Set, api.List}
	// noKinds are numbers beside the Kinds, and such as are one of them in fewer bits.
	noKinds = []int{math.MinInt, -1<<32 + 1, -1 << 32, -256 + 3, -4, -2, -1, 0, 5, 6, 9, 16, 256 + 1, 1<<16 + 2, 1 << 32, 1<<32 + 4, math.MaxInt}

	seeds = []uint64{0, 1, 7, 0xcbf29ce484222325, 1 << 63, math.MaxUint64}

	longest = strings.Repeat("x", api.MaxEntry)
)

// ways are limits by which a collection of few and short texts lies in one pack, and by which it does not.
var ways = map[string]api.Limits{"packed": {Entries: 512, Text: 60}, "not packed": {}}

// limits has these two.
func limits(entries, text int) api.Limits {
	return api.Limits{Entries: entries, Text: text}
}

// someLimits are below 0, at 0, above 0, and beyond what counts.
func someLimits() []api.Limits {
	var l []api.Limits
	for _, entries := range []int{math.MinInt, -1, 0, 1, 2, 3, 100, 512, 513, math.MaxInt} {
		for _, text := range []int{math.MinInt, -1, 0, 1, 5, 60, 61, math.MaxInt} {
			l = append(l, limits(entries, text))
		}
	}
	return l
}

// names are so many texts, each another one.
func names(n int) []string {
	var l []string
	for i := range n {
		l = append(l, "t"+strconv.Itoa(i))
	}
	return l
}

// sized is the n-th of many texts that have just this many bytes.
func sized(n, bytes int) string {
	s := fmt.Sprintf("%0*x", bytes, n)
	return s[len(s)-bytes:]
}

// reversed are these texts from the last one on.
func reversed(l []string) []string {
	l = slices.Clone(l)
	slices.Reverse(l)
	return l
}

// model is a value as the chapter's words tell it, in Go's own maps and lists.
type model struct {
	kind    int
	text    string
	pairs   map[string]string
	members map[string]int
	list    []string
	// entries and bytes are what the limits count as, and great is whether a hash or a set has ever left them.
	entries, bytes int
	great          bool
}

// counted is what a limit counts as.
func counted(n, most int) int {
	if n < 0 {
		return 0
	}
	if n > most {
		return most
	}
	return n
}

// both are an empty value and its model.
func both(kind int, seed uint64, l api.Limits) (*value.Value, *model) {
	w := &model{kind: kind, pairs: map[string]string{}, members: map[string]int{}, entries: counted(l.Entries, 512), bytes: counted(l.Text, 60)}
	return value.New(kind, seed, l), w
}

// filled is a value of these texts, which are fields and values of a hash, and its model.
func filled(kind int, seed uint64, l api.Limits, texts ...string) (*value.Value, *model) {
	v, w := both(kind, seed, l)
	for _, s := range texts {
		add(v, w, s, s)
	}
	return v, w
}

// made is a value of these texts.
func made(kind int, seed uint64, l api.Limits, texts ...string) *value.Value {
	v, _ := filled(kind, seed, l, texts...)
	return v
}

// add lets a value and its model have s, and what, if it is a hash's field, as its value.
func add(v *value.Value, w *model, s, what string) {
	switch w.kind {
	case api.String:
		v.Text += s
		w.text += s
	case api.Hash:
		v.Hash.Set(s, what)
		w.pairs[s] = what
		w.great = w.great || len(w.pairs) > w.entries || len(s) > w.bytes || len(what) > w.bytes
	case api.Set:
		v.Set.Add(s)
		w.members[s]++
		w.great = w.great || len(w.members) > w.entries || len(s) > w.bytes
	case api.List:
		v.List.Right(s)
		w.list = append(w.list, s)
	}
}

// drop takes s away from a value and its model.
func drop(v *value.Value, w *model, s string) {
	switch w.kind {
	case api.String:
		v.Text = strings.ReplaceAll(v.Text, s, "")
		w.text = strings.ReplaceAll(w.text, s, "")
	case api.Hash:
		v.Hash.Delete(s)
		delete(w.pairs, s)
	case api.Set:
		v.Set.Remove(s)
		delete(w.members, s)
	case api.List:
		v.List.Remove(s, 0)
		w.list = slices.DeleteFunc(w.list, func(o string) bool { return o == s })
	}
}

// copied is another model of the same things.
func (w *model) copied() *model {
	c := *w
	c.pairs, c.members, c.list = maps.Clone(w.pairs), maps.Clone(w.members), slices.Clone(w.list)
	return &c
}

// len is what Len tells: what the model's Kind has not is empty in it.
func (w *model) len() int {
	return len(w.text) + len(w.pairs) + len(w.members) + len(w.list)
}

// same is what Same tells of two.
func (w *model) same(o *model) bool {
	if w == nil || o == nil {
		return w == o
	}
	if w.kind != o.kind || w.text != o.text || !maps.Equal(w.pairs, o.pairs) || len(w.members) != len(o.members) {
		return false
	}
	for m := range w.members {
		if _, there := o.members[m]; !there {
			return false
		}
	}
	return slices.Equal(w.list, o.list)
}

// isNumber tells whether s is the one text of a number, by Go's own reading.
func isNumber(s string) bool {
	n, err := strconv.ParseInt(s, 10, 64)
	return err == nil && strconv.FormatInt(n, 10) == s
}

// encoding is what Encoding tells. Which pack of a list has how many is free, so v's list is asked for them.
func (w *model) encoding(v *value.Value) string {
	switch {
	case w.kind == api.String && isNumber(w.text):
		return "int"
	case w.kind == api.String && len(w.text) < 45:
		return "embstr"
	case w.kind == api.String:
		return "raw"
	case w.kind == api.List && len(v.List.Nodes()) > 1:
		return "quicklist"
	case w.kind != api.List && w.great:
		return "hashtable"
	}
	return "listpack"
}

// wantFields asks that the field of v's Kind alone has something.
func wantFields(t *testing.T, v *value.Value, kind int) {
	t.Helper()
	if v == nil {
		t.Fatalf("P15.1: nil, want Kind %d", kind)
	}
	if v.Kind != kind || v.Text != "" && kind != api.String || (v.Hash != nil) != (kind == api.Hash) || (v.Set != nil) != (kind == api.Set) || (v.List != nil) != (kind == api.List) {
		t.Fatalf("P15.1: %+v, want Kind %d", v, kind)
	}
}

// wantThings asks that v has just what the model has.
func wantThings(t *testing.T, v *value.Value, w *model) {
	t.Helper()
	wantFields(t, v, w.kind)
	ok := true
	switch w.kind {
	case api.String:
		ok = v.Text == w.text
	case api.Hash:
		ok = v.Hash.Len() == len(w.pairs)
		for _, p := range v.Hash.All() {
			is, there := w.pairs[p.Field]
			ok = ok && there && is == p.Value
		}
	case api.Set:
		ok = v.Set.Len() == len(w.members)
		for _, m := range v.Set.All() {
			_, there := w.members[m]
			ok = ok && there
		}
	case api.List:
		ok = slices.Equal(v.List.All(), w.list)
	}
	if !ok {
		t.Fatalf("P15.1: the %s of %d has not what was put in", v.Type(), w.len())
	}
}

// typeNames are the names of the Kinds, and of none.
var typeNames = []string{"none", "string", "hash", "set", "list"}

// wantValue asks v for all that can be asked of it.
func wantValue(t *testing.T, v *value.Value, w *model) {
	t.Helper()
	wantThings(t, v, w)
	if v.Len() != w.len() {
		t.Fatalf("P15.1: Len of a %s: %d, want %d", v.Type(), v.Len(), w.len())
	}
	if want := w.len() == 0 && w.kind != api.String; v.Empty() != want {
		t.Fatalf("P15.1: Empty of a %s of %d: %t", v.Type(), w.len(), v.Empty())
	}
	if v.Type() != typeNames[w.kind] {
		t.Fatalf("P15.2: Type of Kind %d: %q", w.kind, v.Type())
	}
	if want := w.encoding(v); v.Encoding() != want {
		t.Fatalf("P15.2: Encoding of a %s of %d: %q, want %q", v.Type(), w.len(), v.Encoding(), want)
	}
	for _, kind := range kinds {
		wantIs(t, v, kind, kind == w.kind)
	}
}

// wantIs asks for Is, and, if it refuses, for a fault of no command.
func wantIs(t *testing.T, v *value.Value, kind int, is bool) {
	t.Helper()
	err := v.Is(kind)
	if is && err != nil {
		t.Fatalf("P15.1: a %s is of Kind %d: %v", v.Type(), kind, err)
	}
	if is {
		return
	}
	if fault.Code(err) != api.ErrType || fault.Cmd(err) != "" || fault.Depth(err) != 1 || !errors.Is(err, api.ErrType) {
		t.Fatalf("P15.1: a %s is not of Kind %d: %v", v.Type(), kind, err)
	}
}

// wantSame asks either way round.
func wantSame(t *testing.T, a, b *value.Value, want bool, name string) {
	t.Helper()
	if value.Same(a, b) != want || value.Same(b, a) != want {
		t.Errorf("P15.2: %.60q: Same of %s (%s, %d) and %s (%s, %d): %t, %t, want %t", name, a.Type(), a.Encoding(), a.Len(), b.Type(), b.Encoding(), b.Len(), value.Same(a, b), value.Same(b, a), want)
	}
}

// told is all that v tells, with every order.
func told(v *value.Value) string {
	s := fmt.Sprintf("%d %t %s %s\n", v.Len(), v.Empty(), v.Type(), v.Encoding())
	switch v.Kind {
	case api.String:
		return s + v.Text
	case api.Hash:
		return s + fmt.Sprintf("%q %t", v.Hash.All(), v.Hash.Packed())
	case api.Set:
		return s + fmt.Sprintf("%q %t", v.Set.All(), v.Set.Packed())
	}
	return s + fmt.Sprintf("%q %v", v.List.All(), v.List.Nodes())
}
