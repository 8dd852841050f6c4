package table_test

import (
	"errors"
	"fmt"
	"maps"
	"math"
	"math/rand"
	"runtime"
	"slices"
	"strings"
	"testing"
	"weak"

	"tallboy/api"
	"tallboy/ctrl"
	"tallboy/hash"
	"tallboy/table"
)

const (
	greatest = math.MaxUint64
	begin    = 0xcbf29ce484222325 // by this seed the empty text and all texts of zeros have one hash, 0
)

var (
	seeds = []uint64{0, 1, 7, begin, 1 << 63, 0x0123456789abcdef, greatest - 1, greatest}

	// noBits are numbers that no bit of a hash has; the powers of two among them are 0 where a shift or a number of fewer bits takes them.
	noBits = []int{
		math.MinInt, math.MinInt + 1, math.MinInt32, -1 << 32, -256, -128, -65, -64, -63, -33, -32, -2, -1,
		64, 65, 95, 96, 127, 128, 255, 256, 1 << 16, math.MaxInt32, 1 << 32, 1<<32 + 5, 1 << 40, math.MaxInt - 1, math.MaxInt,
	}
)

// numbered are n keys, each another one.
func numbered(n int) []string {
	var l []string
	for i := range n {
		l = append(l, fmt.Sprint("key:", i))
	}
	return l
}

// zeros are n texts, each of one zero byte more than the one ahead of it, from the empty one on.
func zeros(n int) []string {
	var l []string
	for i := range n {
		l = append(l, strings.Repeat("\x00", i))
	}
	return l
}

// odd are keys of any bytes, each another one: empty, such as begin alike, of broken runes, of each byte, and long ones last.
func odd() []string {
	l := []string{"", "\x00\x00", "a\x00", "\x00a", "\u00e9", "\ufffd", "\xff\xfe", "\xed\xa0\x80", "\u65e5\u672c", " a", "a ", "aa", "ab", "ba", "A\r\n"}
	for c := range 256 {
		l = append(l, string([]byte{byte(c)}))
	}
	return append(l, strings.Repeat("k", api.MaxKey-1), strings.Repeat("k", api.MaxKey), strings.Repeat("k", api.MaxKey+1), strings.Repeat("k", api.MaxText))
}

// withBit are n keys whose hash by this seed has this as that bit.
func withBit(seed uint64, bit, n int, is uint64) []string {
	var l []string
	for i := 0; len(l) < n; i++ {
		if k := fmt.Sprint("bit", i); hash.Of(seed, k)>>bit&1 == is {
			l = append(l, k)
		}
	}
	return l
}

// filled is a table of these keys, each with its place in the list, and the same as a map.
func filled(t *testing.T, seed uint64, keys []string) (*table.Table[int], map[string]int) {
	t.Helper()
	x, m := table.New[int](seed), map[string]int{}
	for n, k := range keys {
		wantPut(t, x, k, n, api.OK)
		m[k] = n
	}
	wantAll(t, x, m)
	return x, m
}

// marked is a table that had far more keys than it has, so that marks are there if it leaves any.
func marked(t *testing.T, seed uint64) (*table.Table[int], map[string]int) {
	t.Helper()
	x, m := filled(t, seed, numbered(api.Room))
	for n, k := range numbered(api.Room) {
		if n%3 != 0 {
			wantDelete(t, x, k, true)
			delete(m, k)
		}
	}
	wantAll(t, x, m)
	return x, m
}

func wantPut(t *testing.T, x *table.Table[int], k string, v int, want api.Code) {
	t.Helper()
	if got := x.Put(k, v); got != want {
		t.Fatalf("P8.1: Put(%.24q, %d) among %d: %d, want %d", k, v, x.Len(), got, want)
	}
}

func wantDelete(t *testing.T, x *table.Table[int], k string, want bool) {
	t.Helper()
	if got := x.Delete(k); got != want {
		t.Fatalf("P8.1: Delete(%.24q) among %d: %t, want %t", k, x.Len(), got, want)
	}
}

func wantGet(t *testing.T, x *table.Table[int], k string, v int, want bool) {
	t.Helper()
	if got, ok := x.Get(k); got != v || ok != want {
		t.Fatalf("P8.1: Get(%.24q) among %d: %d, %t, want %d, %t", k, x.Len(), got, ok, v, want)
	}
}

// wantShape is P8.2: what Groups, Words and Marks are to Len and to each other.
func wantShape[V any](t *testing.T, x *table.Table[V], n int) {
	t.Helper()
	groups, words := x.Groups(), x.Words()
	if !slices.Contains([]int{1, 2, 4, 8, 16}, groups) || len(words) != groups {
		t.Fatalf("P8.2: %d groups, %d words", groups, len(words))
	}
	full, marks := 0, 0
	for _, w := range words {
		full += w.Count()
		marks += len(w.Match(ctrl.Deleted))
		if w.Count()+len(w.Match(ctrl.Deleted))+len(w.Match(ctrl.Empty)) != api.Slots {
			t.Fatalf("P8.2: a byte that is no slot's: %#016x", uint64(w))
		}
	}
	if x.Len() != n || full != n || x.Marks() != marks {
		t.Fatalf("P8.2: Len %d, Counts %d, want %d; Marks %d, Deleted %d", x.Len(), full, n, x.Marks(), marks)
	}
	if n > api.Room || n > 7*groups || n+marks > 7*groups {
		t.Fatalf("P8.2: %d keys and %d marks in %d groups", n, marks, groups)
	}
}

// wantAll is everything that x tells, against a map.
func wantAll(t *testing.T, x *table.Table[int], m map[string]int) {
	t.Helper()
	wantShape(t, x, len(m))
	if keys := slices.Sorted(slices.Values(x.Keys())); !slices.Equal(keys, slices.Sorted(maps.Keys(m))) {
		t.Fatalf("P8.1: %d Keys, want %d: %.100q", len(keys), len(m), keys)
	}
	for k, v := range m {
		wantGet(t, x, k, v, true)
	}
	wantGet(t, x, "never there", 0, false)
}

// told is all that the table tells of these keys, with every order.
func told(x *table.Table[int], keys []string) string {
	var b strings.Builder
	fmt.Fprintln(&b, x.Len(), x.Groups(), x.Marks(), x.Words())
	fmt.Fprintf(&b, "%q\n", x.Keys())
	for _, k := range keys {
		v, ok := x.Get(k)
		fmt.Fprintln(&b, v, ok)
	}
	return b.String()
}

// wantSame is R3 and P8.3: the table is as it was.
func wantSame(t *testing.T, x *table.Table[int], keys []string, was string) {
	t.Helper()
	if is := told(x, keys); is != was {
		t.Fatalf("the table is turned: %.300s\nit was %.300s", is, was)
	}
}

// P8.1, P8.2: a table with nothing has one group, and finds nothing.
func TestNew(t *testing.T) {
	for _, seed := range seeds {
		x := table.New[int](seed)
		if x.Groups() != 1 || x.Marks() != 0 || x.Len() != 0 || len(x.Keys()) != 0 {
			t.Errorf("P8.1: New: %d groups, %d marks, %d, %q", x.Groups(), x.Marks(), x.Len(), x.Keys())
		}
		for _, k := range odd() {
			wantGet(t, x, k, 0, false)
			wantDelete(t, x, k, false)
		}
		wantAll(t, x, map[string]int{})
	}
}

// P8.1: the chapter's run, and its first example.
func TestRuns(t *testing.T) {
	x := table.New[int](0)
	wantPut(t, x, "a", 1, api.OK)
	wantPut(t, x, "a", 2, api.OK)
	if x.Len() != 1 {
		t.Errorf("P8.1: Put(a, 1), Put(a, 2), Len: %d", x.Len())
	}
	wantGet(t, x, "a", 2, true)
	wantDelete(t, x, "a", true)
	wantGet(t, x, "a", 0, false)
}

// P8.1: keys are texts of any bytes, and only the same bytes are the same key.
func TestOddKeys(t *testing.T) {
	for _, seed := range seeds {
		for part := range slices.Chunk(odd(), 100) {
			x, m := filled(t, seed, part)
			for _, k := range odd() {
				v, there := m[k]
				wantGet(t, x, k, v, there)
			}
			for _, k := range part {
				wantDelete(t, x, k, true)
				delete(m, k)
				wantAll(t, x, m)
			}
		}
	}
}

// P8.1, R4: a key is its bytes, wherever they lie; what becomes of them later is nothing to the table.
func TestKeysByBytes(t *testing.T) {
	x := table.New[int](3)
	b := []byte("some key")
	wantPut(t, x, string(b[5:]), 1, api.OK)
	copy(b, "********")
	wantGet(t, x, "key", 1, true)
	wantGet(t, x, "***", 0, false)
	wantPut(t, x, strings.Join([]string{"k", "ey"}, ""), 2, api.OK)
	wantAll(t, x, map[string]int{"key": 2})
}

// P8.1: a key that is put again has the new value, and Len is as it was; of each of any number of keys, Room among them.
func TestPutAgain(t *testing.T) {
	for _, seed := range seeds {
		for _, n := range []int{1, 7, 8, 14, 15, 56, 57, api.Room - 1, api.Room} {
			x, m := filled(t, seed, numbered(n))
			for i, k := range numbered(n) {
				for _, v := range []int{-i, 0, 1000 + i} {
					wantPut(t, x, k, v, api.OK)
					m[k] = v
					wantGet(t, x, k, v, true)
					wantShape(t, x, n)
				}
			}
			wantAll(t, x, m)
		}
	}
}

// P8.1, P8.4, the second example: Room new keys are taken, and the one behind them is refused with nothing changed.
func TestFull(t *testing.T) {
	for _, seed := range seeds {
		for _, keys := range [][]string{numbered(api.Room + 20), zeros(api.Room + 20), odd()} {
			x, m := table.New[int](seed), map[string]int{}
			for n, k := range keys[:api.Room] {
				wantPut(t, x, k, n, api.OK)
				m[k] = n
				wantAll(t, x, m)
			}
			wantRefused(t, x, keys)
			wantAll(t, x, m)
			first, last := keys[0], keys[api.Room]
			wantDelete(t, x, first, true)
			wantPut(t, x, last, -5, api.OK)
			delete(m, first)
			m[last] = -5
			wantAll(t, x, m)
			wantPut(t, x, first, 1, api.ErrFull)
			wantPut(t, x, last, -6, api.OK)
			m[last] = -6
			wantAll(t, x, m)
		}
	}
}

// wantRefused asks that a full table of the first Room keys refuses the others, and is as it was each time.
func wantRefused(t *testing.T, x *table.Table[int], keys []string) {
	t.Helper()
	was := told(x, keys)
	for _, k := range keys[api.Room:] {
		wantPut(t, x, k, 1, api.ErrFull)
		wantSame(t, x, keys, was)
		wantDelete(t, x, k, false)
		wantSame(t, x, keys, was)
	}
}

// P8.1: Get and Delete of what was never there, of what was deleted, and of what was put again behind that.
func TestDelete(t *testing.T) {
	for _, seed := range seeds {
		for _, n := range []int{1, 2, 7, 8, 50, api.Room} {
			x, m := filled(t, seed, numbered(n))
			for i, k := range numbered(n) {
				wantDelete(t, x, "no "+k, false)
				wantDelete(t, x, k, true)
				delete(m, k)
				wantGet(t, x, k, 0, false)
				wantDelete(t, x, k, false)
				wantAll(t, x, m)
				wantPut(t, x, k, i+500, api.OK)
				m[k] = i + 500
				wantAll(t, x, m)
				wantDelete(t, x, k, true)
				wantDelete(t, x, k, false)
				delete(m, k)
				wantAll(t, x, m)
			}
		}
	}
}

// R3: a Delete of what is not there changes nothing, with marks and without.
func TestDeleteOfNone(t *testing.T) {
	for _, seed := range seeds {
		x, _ := marked(t, seed)
		was := told(x, numbered(api.Room))
		for i := range 50 {
			wantDelete(t, x, fmt.Sprint("none", i), false)
			wantDelete(t, x, numbered(2)[1], false)
		}
		wantSame(t, x, numbered(api.Room), was)
	}
}

// wantValues puts both values under several keys, and asks that each is told as itself, and zero where nothing is there.
func wantValues[V any](t *testing.T, first, second V, same func(a, b V) bool) {
	t.Helper()
	var zero V
	x := table.New[V](11)
	tell := func(k string, want V, there bool) {
		t.Helper()
		if got, ok := x.Get(k); ok != there || !same(got, want) {
			t.Errorf("P8.1: Get(%s) of a table of %T: %v, %t", k, first, got, ok)
		}
	}
	for _, k := range numbered(api.Room) {
		tell(k, zero, false)
		if x.Put(k, first) != api.OK {
			t.Errorf("P8.1: Put of a %T", first)
		}
		tell(k, first, true)
	}
	tell("more", zero, false)
	if x.Put("more", second) != api.ErrFull || x.Put("key:7", second) != api.OK || x.Put("key:8", zero) != api.OK || !x.Delete("key:9") {
		t.Errorf("P8.1: a full table of %T", first)
	}
	tell("more", zero, false)
	tell("key:7", second, true)
	tell("key:8", zero, true)
	tell("key:9", zero, false)
	tell("key:10", first, true)
	wantShape(t, x, api.Room-1)
}

func same[V comparable](a, b V) bool { return a == b }

// P8.1: values of many types.
func TestValues(t *testing.T) {
	wantValues(t, 1, -1, same)
	wantValues(t, "a", "\x00", same)
	wantValues(t, true, true, same)
	wantValues(t, 1.5, math.Inf(-1), same)
	wantValues(t, struct{}{}, struct{}{}, same)
	wantValues(t, [3]string{"a"}, [3]string{2: "b"}, same)
	wantValues(t, api.Pair{Field: "a"}, api.Pair{Value: "b"}, same)
	wantValues(t, new(int), new(int), same)
	wantValues(t, table.New[string](1), table.New[string](2), same)
	wantValues[error](t, api.ErrFull, errors.New("other"), same)
	wantValues[any](t, 1, "a", same)
	wantValues(t, []string{"a", ""}, []string{}, func(a, b []string) bool { return slices.Equal(a, b) && (a == nil) == (b == nil) })
	wantValues(t, map[string]int{"a": 1}, map[string]int{}, func(a, b map[string]int) bool { return maps.Equal(a, b) && (a == nil) == (b == nil) })
	wantValues(t, strings.ToUpper, strings.ToLower, func(a, b func(string) string) bool {
		return (a == nil) == (b == nil) && (a == nil || a("Aa") == b("Aa"))
	})
}

// P8.1: a value is told as itself, not as a copy of what it points to.
func TestValueItself(t *testing.T) {
	x := table.New[*int](1)
	n := 5
	x.Put("a", &n)
	part, _ := x.Split(-1)
	n = 6
	if p, ok := x.Get("a"); !ok || p != &n || *p != 6 {
		t.Error("P8.1: another value than the one that was put")
	}
	if p, ok := part.Get("a"); !ok || p != &n {
		t.Error("P8.3: another value than the one that was put")
	}
}

// A table keeps no value that none of its keys has any more.
func TestNothingKept(t *testing.T) {
	x := table.New[*[64]int](1)
	var gone []weak.Pointer[[64]int]
	for _, k := range numbered(api.Room) {
		v := new([64]int)
		gone = append(gone, weak.Make(v))
		x.Put(k, v)
	}
	for i, k := range numbered(api.Room) {
		if i%2 == 0 {
			x.Delete(k)
		} else {
			x.Put(k, nil)
		}
	}
	runtime.GC()
	for i, p := range gone {
		if p.Value() != nil {
			t.Errorf("the value of %q is kept", numbered(api.Room)[i])
		}
	}
	wantShape(t, x, api.Room/2)
}

// P8.1, P8.2, P8.4: at every step from nothing to Room keys and back, by several orders.
func TestFillAndEmpty(t *testing.T) {
	for _, seed := range seeds {
		r := rand.New(rand.NewSource(int64(seed)))
		x, m := table.New[int](seed), map[string]int{}
		keys := numbered(api.Room)
		for turn := range 6 {
			for n, k := range keys {
				wantPut(t, x, k, n+turn, api.OK)
				m[k] = n + turn
				wantAll(t, x, m)
			}
			wantPut(t, x, "more", 1, api.ErrFull)
			switch turn % 3 {
			case 1:
				slices.Reverse(keys)
			case 2:
				r.Shuffle(len(keys), func(i, j int) { keys[i], keys[j] = keys[j], keys[i] })
			}
			for _, k := range keys {
				wantDelete(t, x, k, true)
				delete(m, k)
				wantAll(t, x, m)
			}
		}
	}
}

// P8.2, P8.4: one key that is put and deleted over and over among others that stay, and a new key each time.
func TestOverAndOver(t *testing.T) {
	for _, seed := range seeds {
		for n := range api.Room {
			for _, name := range []string{"same", "new"} {
				x, m := filled(t, seed, numbered(n))
				for i := range 130 {
					k := name
					if name == "new" {
						k = fmt.Sprint(name, i)
					}
					wantPut(t, x, k, i, api.OK)
					wantGet(t, x, k, i, true)
					wantShape(t, x, n+1)
					wantDelete(t, x, k, true)
					wantGet(t, x, k, 0, false)
					wantShape(t, x, n)
				}
				wantAll(t, x, m)
			}
		}
	}
}

// P8.4: one key that goes and another that comes, thousands of times, with a full table and with one less.
func TestOldForNew(t *testing.T) {
	for _, seed := range seeds {
		for _, n := range []int{1, 7, 8, 14, 28, 29, 56, 57, api.Room - 1, api.Room} {
			x, m := filled(t, seed, numbered(n))
			keys := numbered(n + 1000)
			for i, k := range keys[n:] {
				if n == api.Room {
					wantPut(t, x, k, 1, api.ErrFull)
				}
				wantDelete(t, x, keys[i], true)
				wantPut(t, x, k, n+i, api.OK)
				delete(m, keys[i])
				m[k] = n + i
				wantShape(t, x, n)
				if i%20 == 0 {
					wantAll(t, x, m)
				}
			}
			wantAll(t, x, m)
		}
	}
}

// P8.1, P8.4: keys that all have one hash are told apart, and found behind those that were deleted ahead of them.
func TestOneHash(t *testing.T) {
	keys := zeros(api.Room + 1)
	for i := range keys {
		if hash.Of(begin, keys[i]) != 0 {
			t.Fatalf("no test of one hash: %#x", hash.Of(begin, keys[i]))
		}
	}
	for _, step := range []int{1, 2, 3, 7, 8, 9, 16} {
		x, m := filled(t, begin, keys[:api.Room])
		wantPut(t, x, keys[api.Room], 1, api.ErrFull)
		for i := 0; i < api.Room; i += step {
			wantDelete(t, x, keys[i], true)
			delete(m, keys[i])
			wantAll(t, x, m)
			wantDelete(t, x, keys[i], false)
		}
		for i := 0; i < api.Room; i += step {
			wantPut(t, x, keys[i], i+1000, api.OK)
			m[keys[i]] = i + 1000
			wantAll(t, x, m)
		}
		wantPut(t, x, keys[api.Room], 1, api.ErrFull)
	}
}

// P8.1: a key that lies behind deleted ones is not put a second time ahead of itself.
func TestPutAgainBehindDeleted(t *testing.T) {
	keys := zeros(api.Room)
	for gone := range 60 {
		x, m := filled(t, begin, keys)
		for _, k := range keys[:gone] {
			wantDelete(t, x, k, true)
			delete(m, k)
		}
		for i, k := range keys[gone:] {
			wantPut(t, x, k, -i, api.OK)
			m[k] = -i
			wantShape(t, x, api.Room-gone)
		}
		wantAll(t, x, m)
		for _, k := range keys[gone:] {
			wantDelete(t, x, k, true)
			wantGet(t, x, k, 0, false)
		}
		wantAll(t, x, map[string]int{})
	}
}

// play does one step by chance to the table and to the map.
func play(t *testing.T, r *rand.Rand, x *table.Table[int], m map[string]int, keys []string, puts int) {
	t.Helper()
	k, v := keys[r.Intn(len(keys))], r.Int()
	_, there := m[k]
	switch {
	case r.Intn(10) >= puts:
		wantDelete(t, x, k, there)
		delete(m, k)
	case !there && len(m) == api.Room:
		wantPut(t, x, k, v, api.ErrFull)
	default:
		wantPut(t, x, k, v, api.OK)
		m[k] = v
	}
	wantShape(t, x, len(m))
	v, there = m[k]
	wantGet(t, x, k, v, there)
}

// P8.1, P8.2, P8.4: plays of puts and deletes against a map, with few keys and many, and keys of one hash.
func TestPlays(t *testing.T) {
	r := rand.New(rand.NewSource(8))
	for _, seed := range append(seeds, r.Uint64(), r.Uint64(), r.Uint64()) {
		for _, keys := range [][]string{numbered(8), numbered(40), numbered(125), numbered(2000), zeros(9), zeros(125), odd()} {
			x, m := table.New[int](seed), map[string]int{}
			for n := range 2000 {
				play(t, r, x, m, keys, []int{8, 5, 2, 6}[n/100%4])
				if n%40 == 0 {
					wantAll(t, x, m)
				}
			}
			wantAll(t, x, m)
		}
	}
}

// P8.1, P8.2, R2: what Keys and Words told may be turned, spare room and all.
func TestListsByThemselves(t *testing.T) {
	for n := range api.Room + 1 {
		x, m := filled(t, 5, numbered(n))
		was := told(x, numbered(n))
		keys, words := x.Keys(), x.Words()
		otherKeys, otherWords := x.Keys(), x.Words()
		wantKeys, wantWords := slices.Clone(keys), slices.Clone(words)
		for i := range keys[:cap(keys)] {
			keys[:cap(keys)][i] = "turned"
		}
		for i := range words[:cap(words)] {
			words[:cap(words)][i] = 0xfefefefefefefefe
		}
		if !slices.Equal(otherKeys, wantKeys) || !slices.Equal(otherWords, wantWords) {
			t.Fatal("R2: two answers share memory")
		}
		wantSame(t, x, numbered(n), was)
		wantPut(t, x, "key:0", 9, api.OK)
		m["key:0"] = 9
		wantAll(t, x, m)
		if !slices.Equal(otherKeys, wantKeys) || !slices.Equal(otherWords, wantWords) {
			t.Fatal("R2: an answer is turned by a later call")
		}
	}
}

// P8.1, R4: tables are by themselves, and tell the same behind the same calls.
func TestTwoTables(t *testing.T) {
	for _, seed := range seeds {
		one, ones := table.New[int](seed), map[string]int{}
		two, twos := table.New[int](seed), map[string]int{}
		other, _ := filled(t, seed, zeros(20))
		was := told(other, zeros(20))
		for step := range 800 {
			play(t, rand.New(rand.NewSource(int64(step))), one, ones, numbered(150), 6)
			play(t, rand.New(rand.NewSource(int64(step))), two, twos, numbered(150), 6)
			wantSame(t, two, numbered(150), told(one, numbered(150)))
		}
		wantAll(t, one, twos)
		wantSame(t, other, zeros(20), was)
	}
}
