package hashes_test

import (
	"fmt"
	"math/rand"
	"slices"
	"strconv"
	"strings"
	"testing"

	"tallboy/api"
	"tallboy/glob"
	"tallboy/hashes"
	"tallboy/num"
	"tallboy/reply"
)

// noCursors are texts that num.Cursor does not take.
var noCursors = []string{"", "x", "-1", "+1", "-0", " 1", "1 ", "1.0", "0x1", "1\x00", "18446744073709551616", "99999999999999999999", "000000000000000000000", "0000000000000000000001"}

// cursors are texts that are one, with zeros ahead too.
var cursors = []string{"0", "1", "7", "007", "00000000000000000000", "9223372036854775808", "18446744073709551615"}

// TestScanOfAPack tells all pairs, whatever the cursor and the count.
func TestScanOfAPack(t *testing.T) {
	p := fresh(t)
	l := []string{"f1", "1", "f2", "", "g", "3"}
	p.hash("a", l...)
	for _, c := range cursors {
		p.tells(scanned("0", l...), "hscan", "a", c)
		p.tells(scanned("0", l...), "HSCAN", "a", c, "count", "1")
		p.tells(scanned("0", "f1", "1", "f2", ""), "hscan", "a", c, "MATCH", "f*")
		p.tells(scanned("0"), "hscan", "none", c)
		p.tells(scanned("0"), "hscan", "none", c, "COUNT", "1", "MATCH", "*")
	}
	for _, x := range []struct {
		pattern string
		told    []string
	}{
		{"*", l}, {"", nil}, {"f1", l[:2]}, {"f?", l[:4]}, {"?", l[4:]}, {"[^f]*", l[4:]}, {"F*", nil}, {"3", nil}, {"f[2-9]", l[2:4]}, {`\f1`, l[:2]}, {"[", nil}, {"*1", l[:2]},
	} {
		p.tells(scanned("0", x.told...), "hscan", "a", "0", "match", x.pattern)
		p.tells(scanned("0", x.told...), "hscan", "a", "0", "Count", "2", "Match", x.pattern)
		p.tells(scanned("0", x.told...), "hscan", "a", "0", "MATCH", x.pattern, "COUNT", most)
	}
	p.hash("odd", "", "x", "MATCH", "y")
	p.tells(scanned("0", "", "x"), "hscan", "odd", "0", "MATCH", "")
	p.tells(scanned("0", "MATCH", "y"), "hscan", "odd", "0", "MATCH", "MATCH")
}

// TestWhatHscanRefuses has every wrong word, over each Kind, none and a hash: what is refused of words comes ahead of what the key has.
func TestWhatHscanRefuses(t *testing.T) {
	p := fresh(t)
	p.collect()
	p.timed("a", 9000, "f", "1")
	for _, key := range []string{"a", "none", "text", "set", "list"} {
		for _, c := range noCursors {
			for _, rest := range [][]string{nil, {"MATCH", "*"}, {"COUNT", "x"}, {"COUNT", "0"}, {"COUNT"}, {"foo"}, {"foo", "x", "COUNT", "x"}} {
				p.refused(api.ErrCursor, append([]string{"hscan", key, c}, rest...)...)
			}
		}
		for _, n := range noNumbers {
			p.refused(api.ErrInt, "hscan", key, "0", "COUNT", n)
			p.refused(api.ErrInt, "hscan", key, "0", "MATCH", "*", "count", n)
			p.refused(api.ErrInt, "hscan", key, "7", "COUNT", n, "MATCH", "*")
		}
		for _, n := range []string{"0", "-1", "-5", least} {
			p.refused(api.ErrSyntax, "hscan", key, "0", "COUNT", n)
			p.refused(api.ErrSyntax, "hscan", key, "0", "MATCH", "*", "Count", n)
			p.refused(api.ErrSyntax, "hscan", key, "0", "COUNT", n, "MATCH", "*")
		}
		for _, word := range []string{"", "foo", "TYPE", "MATC", "MATCHES", "MATCH ", "COUNTS", "c", "NOVALUES", "0"} {
			p.refused(api.ErrSyntax, "hscan", key, "0", word)
			p.refused(api.ErrSyntax, "hscan", key, "0", word, "1")
			p.refused(api.ErrSyntax, "hscan", key, "0", "COUNT", "1", word)
			p.refused(api.ErrSyntax, "hscan", key, "0", "MATCH", "*", word, "1")
		}
	}
	for key := range others {
		p.refused(api.ErrType, "hscan", key, "0")
		p.refused(api.ErrType, "hscan", key, "18446744073709551615", "COUNT", "1", "MATCH", "x")
	}
	p.until("a", 9000)
}

// TestWhichRefusalOfHscan has more than one that would fit: the first one from the left is told.
func TestWhichRefusalOfHscan(t *testing.T) {
	for _, key := range []string{"a", "none", "list"} {
		p := fresh(t)
		p.collect()
		p.hash("a", "f", "1")
		for _, x := range []struct {
			words string
			why   api.Code
		}{
			{"COUNT", api.ErrSyntax}, {"MATCH", api.ErrSyntax}, {"count", api.ErrSyntax},
			{"MATCH a COUNT", api.ErrSyntax}, {"COUNT 1 MATCH", api.ErrSyntax}, {"COUNT 1 COUNT", api.ErrSyntax}, {"MATCH a MATCH", api.ErrSyntax},
			{"MATCH a MATCH a", api.ErrSyntax}, {"MATCH a match b", api.ErrSyntax}, {"COUNT 1 COUNT 1", api.ErrSyntax}, {"COUNT 1 Count 2", api.ErrSyntax},
			{"COUNT 1 COUNT x", api.ErrSyntax}, {"COUNT x COUNT 1", api.ErrInt}, {"COUNT x COUNT x", api.ErrInt}, {"COUNT 0 COUNT x", api.ErrSyntax},
			{"COUNT x foo", api.ErrInt}, {"COUNT x foo 1", api.ErrInt}, {"foo 1 COUNT x", api.ErrSyntax}, {"foo x", api.ErrSyntax},
			{"COUNT x MATCH", api.ErrInt}, {"COUNT 0 MATCH", api.ErrSyntax}, {"MATCH COUNT COUNT x", api.ErrInt}, {"MATCH COUNT x", api.ErrSyntax}, {"COUNT MATCH x", api.ErrInt},
			{"MATCH a foo x", api.ErrSyntax}, {"TYPE hash", api.ErrSyntax}, {"TYPE hash COUNT x", api.ErrSyntax}, {"COUNT x TYPE hash", api.ErrInt},
		} {
			words := strings.Fields(x.words)
			p.refused(x.why, append([]string{"hscan", key, "0"}, words...)...)
			p.refused(api.ErrCursor, append([]string{"hscan", key, "-1"}, words...)...)
		}
	}
}

// thinned is a play with a hash "a" in a dict of many buckets, of which each has few fields or none.
func thinned(t *testing.T) *play {
	p := filled(t, 4000)
	m := p.s.Get("a", p.now).Hash
	for i, pair := range slices.Collect(slices.Chunk(many(4000), 2)) {
		if i%29 > 0 {
			m.Delete(pair[0])
		}
	}
	return p
}

// filled is a play with a hash "a" of n fields that are kept in a dict.
func filled(t *testing.T, n int) *play {
	p := within(t, api.Limits{})
	p.put("a", hashOf(api.Limits{}, many(n)...))
	return p
}

// pairsOf are those that a reply of hscan tells, and its cursor.
func pairsOf(t *testing.T, r api.Reply, err error) (l []api.Pair, next string) {
	t.Helper()
	if err != nil || r.Kind != api.Array || len(r.L) != 2 || r.L[0].Kind != api.Bulk || r.L[1].Kind != api.MapReply || len(r.L[1].L)%2 != 0 || !bare(r) {
		t.Fatalf("P22.1: hscan: %s, %v", cut(r), err)
	}
	parts := r.L[1].L
	for i := 0; i < len(parts); i += 2 {
		if parts[i].Kind != api.Bulk || parts[i+1].Kind != api.Bulk {
			t.Fatalf("P22.1: hscan: %s", cut(r))
		}
		l = append(l, api.Pair{Field: parts[i].S, Value: parts[i+1].S})
	}
	next = r.L[0].S
	if c, ok := num.Cursor(next); !ok || num.Unsigned(c) != next {
		t.Fatalf("P22.1: hscan: the cursor %q", next)
	}
	return l, next
}

// TestScanOfADict holds what is told against hmap.Scan, cursor by cursor.
func TestScanOfADict(t *testing.T) {
	for _, p := range []*play{filled(t, 1), filled(t, 5), filled(t, 113), filled(t, 700), filled(t, 3000), thinned(t)} {
		m := p.s.Get("a", p.now).Hash
		for _, c := range []string{"0", "1", "2", "3", "7", "007", "64", "1000000", "18446744073709551615", "00000000000000000004"} {
			for _, x := range []struct {
				words   string
				count   int
				pattern string
			}{
				{"", 10, "*"}, {"COUNT 10", 10, "*"}, {"COUNT 1", 1, "*"}, {"count 7", 7, "*"}, {"COUNT 1000", 1000, "*"}, {"COUNT 1001", 1000, "*"}, {"COUNT " + most, 1000, "*"}, {"COUNT 4294967297", 1000, "*"},
				{"MATCH *1*", 10, "*1*"}, {"MATCH *7 COUNT 50", 50, "*7"}, {"Count 50 Match field?z*", 50, "field?z*"}, {"MATCH none", 10, "none"},
			} {
				from, _ := num.Cursor(c)
				want, next := m.Scan(from, x.count)
				want = slices.DeleteFunc(want, func(p api.Pair) bool { return !glob.Match(x.pattern, p.Field) })
				r, err := hashes.Do(p.s, p.now, 0, append([]string{"hscan", "a", c}, strings.Fields(x.words)...))
				got, end := pairsOf(t, r, err)
				slices.SortFunc(want, byField)
				slices.SortFunc(got, byField)
				if !slices.Equal(got, want) || end != num.Unsigned(next) {
					t.Errorf("P22.1: hscan of %d from %s %s: %d pairs, %s, want %d, %d", m.Len(), c, x.words, len(got), end, len(want), next)
				}
			}
		}
	}
}

// byField is an order of pairs.
func byField(a, b api.Pair) int {
	return strings.Compare(a.Field, b.Field)
}

// chain does hscans from 0 back to 0, and something between, and tells how often each pair was told.
func (p *play) chain(between func(), words ...string) map[api.Pair]int {
	p.Helper()
	seen := map[api.Pair]int{}
	cursor := "0"
	for range 200000 {
		r, err := hashes.Do(p.s, p.now, 0, append([]string{"hscan", "a", cursor}, words...))
		l, next := pairsOf(p.T, r, err)
		for _, x := range l {
			seen[x]++
			if s, there := p.s.Get("a", p.now).Hash.Get(x.Field); !there || s != x.Value {
				p.Fatalf("W2: hscan told %q, which is not there", x)
			}
		}
		if cursor = next; cursor == "0" {
			return seen
		}
		between()
	}
	p.Fatal("W2: hscans do not end")
	return nil
}

// TestChains tell each field once while nothing changes.
func TestChains(t *testing.T) {
	for _, n := range []int{1, 3, 4, 112, 113, 500, 2500} {
		for _, words := range []string{"", "COUNT 1", "COUNT 7", "COUNT 100", "COUNT 5000", "MATCH *3 COUNT 20", "MATCH none"} {
			p := filled(t, n)
			seen := p.chain(func() {}, strings.Fields(words)...)
			all := p.s.Get("a", p.now).Hash.All()
			if strings.HasPrefix(words, "MATCH") {
				all = slices.DeleteFunc(all, func(x api.Pair) bool {
					return !glob.Match(strings.Fields(words)[1], x.Field)
				})
			}
			if len(seen) != len(all) {
				t.Errorf("W2: hscans %s of %d: %d pairs, want %d", words, n, len(seen), len(all))
			}
			for _, x := range all {
				if seen[x] != 1 {
					t.Errorf("W2: hscans %s of %d: %q %d times", words, n, x, seen[x])
				}
			}
		}
	}
}

// TestChainsWithChanges set and delete others between: each field that is there all the time is told, with its value.
func TestChainsWithChanges(t *testing.T) {
	for _, l := range []api.Limits{{}, limits, {Entries: 512, Text: 60}} {
		for _, n := range []int{1, 3, 4, 50, 600, 3000} {
			for _, count := range []string{"1", "10", "200"} {
				p := within(t, l)
				stay := many(n)
				p.put("a", hashOf(l, stay...))
				q := rand.New(rand.NewSource(int64(n)))
				do := func(args ...string) {
					if _, err := hashes.Do(p.s, p.now, 0, args); err != nil {
						t.Fatalf("P22.1: %s: %v", show(args), err)
					}
				}
				// Before they begin, others come and some of these go.
				for i := range n {
					do("hset", "a", fmt.Sprint("other", i), "x")
				}
				turn := 0
				seen := p.chain(func() {
					turn++
					for range 1 + q.Intn(5) {
						f := fmt.Sprint("other", q.Intn(3*n))
						switch turn % 3 {
						case 0:
							do("hdel", "a", f, f+"z")
						case 1:
							do("hset", "a", f, strconv.Itoa(turn), f+"z", "")
						default:
							do("hincrby", "a", fmt.Sprint("count", turn, f), "7")
						}
					}
				}, "COUNT", count)
				for pair := range slices.Chunk(stay, 2) {
					if seen[api.Pair{Field: pair[0], Value: pair[1]}] == 0 {
						t.Errorf("W2: hscans of %d fields with changes between: %q was not told", n, pair)
					}
				}
			}
		}
	}
}

// TestChainsThroughGrowth have a hash become some times as great on the way, or all but five fields go.
func TestChainsThroughGrowth(t *testing.T) {
	for _, grows := range []bool{true, false} {
		p := filled(t, 300)
		stay := many(300)
		var rest [][]string
		for i := range 6000 {
			rest = append(rest, []string{"hset", "a", fmt.Sprint("new", i), "x"})
		}
		if !grows {
			stay, rest = stay[:10], nil
			for pair := range slices.Chunk(many(300)[10:], 2) {
				rest = append(rest, []string{"hdel", "a", pair[0]})
			}
		}
		seen := p.chain(func() {
			n := min(500, len(rest))
			for _, args := range rest[:n] {
				if _, err := hashes.Do(p.s, p.now, 0, args); err != nil {
					t.Fatal(err)
				}
			}
			rest = rest[n:]
		}, "COUNT", "1")
		if n := p.s.Get("a", p.now).Len(); grows && n < 1500 || !grows && n > 5 {
			t.Errorf("%d fields at the end", n)
		}
		for pair := range slices.Chunk(stay, 2) {
			if seen[api.Pair{Field: pair[0], Value: pair[1]}] == 0 {
				t.Errorf("W2: %q was not told", pair)
			}
		}
	}
}

// TestAChainAcrossAnUpgrade begins while the hash is packed: it is told whole, so the chain is at its end.
func TestAChainAcrossAnUpgrade(t *testing.T) {
	p := fresh(t)
	l := []string{"a", "1", "b", "2", "c", "3"}
	p.hash("a", l...)
	p.tells(scanned("0", l...), "hscan", "a", "0", "COUNT", "1")
	p.number(1, "hset", "a", "d", "4")
	p.packed("a", false)
	seen := p.chain(func() {}, "COUNT", "1")
	if len(seen) != 4 {
		t.Errorf("W2: %v", seen)
	}
}

// TestCursorsDoNotHangOnThePattern asks with several of them from each place.
func TestCursorsDoNotHangOnThePattern(t *testing.T) {
	p := filled(t, 900)
	for _, c := range cursors {
		plain, err := hashes.Do(p.s, p.now, 0, []string{"hscan", "a", c, "COUNT", "30"})
		if err != nil {
			t.Fatal(err)
		}
		for _, pattern := range []string{"*", "none", "*1", "field*"} {
			r, err := hashes.Do(p.s, p.now, 0, []string{"hscan", "a", c, "COUNT", "30", "MATCH", pattern})
			if err != nil || !reply.Same(r.L[0], plain.L[0]) {
				t.Errorf("P22.1: hscan from %s with %s: %s, want the cursor %s", c, pattern, cut(r), plain.L[0].S)
			}
		}
	}
}

// TestScanOfAKeyThatIsGone goes on where a chain stood.
func TestScanOfAKeyThatIsGone(t *testing.T) {
	p := filled(t, 500)
	r, err := hashes.Do(p.s, p.now, 0, []string{"hscan", "a", "0"})
	_, next := pairsOf(t, r, err)
	if next == "0" {
		t.Fatal("P22.1: hscan of 500 fields is at its end at once")
	}
	p.s.Delete("a", p.now)
	p.tells(scanned("0"), "hscan", "a", next)
	p.number(1, "hset", "a", "f", "v")
	p.packed("a", false)
	seen := p.chain(func() {})
	if len(seen) != 1 || seen[api.Pair{Field: "f", Value: "v"}] != 1 {
		t.Errorf("P22.1: %v", seen)
	}
}
