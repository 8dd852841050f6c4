package quick_test

import (
	"math"
	"math/rand"
	"slices"
	"strconv"
	"strings"
	"testing"

	"tallboy/api"
	"tallboy/quick"
)

var (
	longest = strings.Repeat("x", api.MaxEntry)
	tooLong = longest + "x"
)

// mosts are how many texts a pack may have: below 1, few, many.
func mosts() []int {
	return []int{math.MinInt, -1, 0, 1, 2, 3, 4, 7, 128, 1000, math.MaxInt}
}

// ends are places: all near 0, and those that are small in fewer bits, up to the ends of int64.
func ends() []int64 {
	l := []int64{
		math.MinInt64, math.MinInt64 + 1, math.MinInt64 + 5, -1<<32 - 1, -1 << 32, -1<<32 + 2, math.MinInt32, -256, -255,
		255, 256, math.MaxInt32, 1 << 32, 1<<32 + 1, math.MaxInt64 - 5, math.MaxInt64 - 1, math.MaxInt64,
	}
	for i := range int64(19) {
		l = append(l, i-9)
	}
	return l
}

// someTexts are the texts at each edge of an entry.
func someTexts() []string {
	l := []string{"", "0", "5", "127", "128", "-1", "9223372036854775807", "-9223372036854775808", "9223372036854775808", "007", "-0", "a", "ab", "\x00", "\x80", "\xff\x05\x01", "\x05\x01"}
	for _, n := range []int{62, 63, 64, 65, 124, 125, 126, 253, 4095, 4096} {
		l = append(l, strings.Repeat("x", n), strings.Repeat("\x81", n), strings.Repeat("1", n))
	}
	return l
}

// names are so many texts that are all different.
func names(n int) []string {
	var l []string
	for i := range n {
		l = append(l, "t"+strconv.Itoa(i))
	}
	return l
}

// size is how many bytes the entry of s has, as chapter 4 says it.
func size(s string) int {
	n, err := strconv.ParseInt(s, 10, 64)
	number := err == nil && strconv.FormatInt(n, 10) == s
	body := 3 + len(s)
	switch {
	case number && n >= 0 && n <= 127:
		body = 1
	case number:
		body = 9
	case len(s) <= 63:
		body = 1 + len(s)
	}
	if body < 128 {
		return body + 1
	}
	return body + 2
}

// filled is a list of texts whose entries have just this many bytes, 65 or more.
func filled(bytes int) []string {
	var l []string
	for ; bytes > 8000; bytes -= 4101 {
		l = append(l, longest)
	}
	for ; bytes > 200; bytes -= 65 {
		l = append(l, strings.Repeat("y", 63))
	}
	for ; bytes > 65; bytes -= 2 {
		l = append(l, "7")
	}
	for _, n := range []int{bytes - 2, bytes - 4} {
		if s := strings.Repeat("z", n); size(s) == bytes {
			l = append(l, s)
		}
	}
	return l
}

// made is a list of these texts.
func made(t *testing.T, most int, l ...string) *quick.List {
	t.Helper()
	list := quick.New(most)
	if why := list.Right(l...); why != api.OK {
		t.Fatalf("P12.1: Right of %d texts: %v", len(l), why)
	}
	return list
}

// brief is a list of texts as a failure shows it.
func brief(l []string) string {
	var b strings.Builder
	for i, s := range l {
		if i == 20 {
			return b.String() + ".."
		}
		if len(s) > 12 {
			s = s[:12] + ".."
		}
		b.WriteString(strconv.Quote(s) + " ")
	}
	return b.String()
}

// wantNodes asks that the packs have 1 to most texts each, all that there are, and no more bytes than a pack may have.
func wantNodes(t *testing.T, l *quick.List, most int, want []string) {
	t.Helper()
	at := 0
	for _, n := range l.Nodes() {
		if n < 1 || n > max(most, 1) || at+n > len(want) {
			t.Fatalf("P12.1: most %d: Nodes of %d texts: %v", most, len(want), l.Nodes())
		}
		bytes := 0
		for _, s := range want[at : at+n] {
			bytes += size(s)
		}
		if bytes > api.MaxPack {
			t.Fatalf("P12.1: most %d: a pack of %d bytes: %v", most, bytes, l.Nodes())
		}
		at += n
	}
	if at != len(want) {
		t.Fatalf("P12.1: most %d: Nodes of %d texts: %v", most, len(want), l.Nodes())
	}
}

// wantTexts asks that a list has just these texts, however it is asked.
func wantTexts(t *testing.T, l *quick.List, most int, want ...string) {
	t.Helper()
	if l.Len() != len(want) {
		t.Fatalf("P12.1: most %d: Len %d, want %d", most, l.Len(), len(want))
	}
	if got := l.All(); !slices.Equal(got, want) {
		t.Fatalf("P12.2: most %d: All: %s; want %s", most, brief(got), brief(want))
	}
	wantNodes(t, l, most, want)
	for _, i := range []int{0, len(want) / 2, len(want) - 1} {
		if i < 0 || i >= len(want) {
			continue
		}
		wantAt(t, l, int64(i), want[i], true)
		wantAt(t, l, int64(i-len(want)), want[i], true)
	}
}

func wantAt(t *testing.T, l *quick.List, i int64, want string, wantOK bool) {
	t.Helper()
	if s, ok := l.At(i); s != want || ok != wantOK {
		t.Fatalf("P12.1: At(%d) of %d: %.20q, %v; want %.20q, %v", i, l.Len(), s, ok, want, wantOK)
	}
}

// wantRefused runs a call that must answer this code and change nothing, the packs included.
func wantRefused(t *testing.T, l *quick.List, want api.Code, name string, call func() api.Code) {
	t.Helper()
	texts, nodes := l.All(), l.Nodes()
	if why := call(); why != want {
		t.Fatalf("P12: %s: %v, want %v", name, why, want)
	}
	if l.Len() != len(texts) || !slices.Equal(l.All(), texts) || !slices.Equal(l.Nodes(), nodes) {
		t.Fatalf("R3: %s changed the list: %s in %v", name, brief(l.All()), l.Nodes())
	}
}

// reversed is the texts, the last first.
func reversed(l []string) []string {
	l = slices.Clone(l)
	slices.Reverse(l)
	return l
}

// joined is the lists, one behind the other, in new memory.
func joined(l ...[]string) []string {
	return slices.Concat(l...)
}

// piece is the texts of the span: a second reading of it, which asks place by place and holds no end back.
func piece(l []string, a, b int64) []string {
	n := int64(len(l))
	if a < 0 {
		a += n
	}
	if b < 0 {
		b += n
	}
	var in []string
	for i, s := range l {
		if a <= int64(i) && int64(i) <= b {
			in = append(in, s)
		}
	}
	return in
}

// without is a second reading of Remove: it counts those that are s, and tells of each one by its number whether it stays.
func without(l []string, s string, n int64) []string {
	total := int64(0)
	for _, x := range l {
		if x == s {
			total++
		}
	}
	var kept []string
	nth := int64(0)
	for _, x := range l {
		if x == s {
			nth++
			if n == 0 || n > 0 && nth <= n || n < 0 && nth-total-1 >= n {
				continue
			}
		}
		kept = append(kept, x)
	}
	return kept
}

// beside is a second reading of Insert.
func beside(l []string, pivot, s string, after bool) ([]string, bool) {
	i := slices.Index(l, pivot)
	if i < 0 {
		return l, false
	}
	if after {
		return joined(l[:i+1], []string{s}, l[i+1:]), true
	}
	return joined(l[:i], []string{s}, l[i:]), true
}

// chanceText is one of a few short texts, or one of any size.
func chanceText(r *rand.Rand, texts []string) string {
	if r.Intn(3) > 0 {
		return []string{"a", "b", "7", "300", ""}[r.Intn(5)]
	}
	return texts[r.Intn(len(texts))]
}
