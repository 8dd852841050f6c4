package req_test

import (
	"math/rand"
	"slices"
	"strconv"
	"strings"
	"testing"

	"tallboy/api"
	"tallboy/req"
)

// wantAsRead holds Next and All of some bytes to what the machine that was fed with them has found.
func wantAsRead(t *testing.T, b []byte, m *machine) {
	t.Helper()
	l, size, why := req.Next(b)
	if words, end, wrong := m.first(); size != end || why != wrong || !slices.Equal(l, words) {
		t.Fatalf("P19.1: Next(%q): %s, %d, %v, want %s, %d, %v", b, show(l), size, why, show(words), end, wrong)
	}
	all, size, why := req.All(b)
	if want, end, wrong := m.all(); size != end || why != wrong || !slices.EqualFunc(all, want, slices.Equal) {
		t.Fatalf("P19.3: All(%q): %s, %d, %v, want %s, %d, %v", b, showAll(all), size, why, showAll(want), end, wrong)
	}
}

// wantRead holds each beginning of some bytes to the second reading, and tells how many requests they are.
func wantRead(t *testing.T, from string) int {
	t.Helper()
	m := newMachine()
	wantAsRead(t, nil, m)
	b := []byte(from)
	for n, x := range b {
		m.feed(x)
		wantAsRead(t, b[:n+1], m)
	}
	return len(m.each)
}

// each calls for every row of at most so many of some bytes.
func each(bytes string, most int, call func(string)) {
	var row func(from string, left int)
	row = func(from string, left int) {
		call(from)
		for i := 0; i < len(bytes) && left > 0; i++ {
			row(from+bytes[i:i+1], left-1)
		}
	}
	row("", most)
}

func TestEveryShortRow(t *testing.T) {
	const signs = "*$-10\r\na' "
	for begin, most := range map[string]int{"": 5, "*1\r\n": 4, "*1\r\n$1\r\n": 4, "*1\r\n$0\r\n\r": 3, "*2\r\n$1\r\na\r\n": 4, "a\n": 3, "*0\r\n": 3} {
		each(signs, most, func(more string) {
			b := []byte(begin + more)
			m := newMachine()
			for _, x := range b {
				m.feed(x)
			}
			wantAsRead(t, b, m)
		})
	}
}

// wantWordsAsRead holds Words to the second reading, and tells whether there are any.
func wantWordsAsRead(t *testing.T, line string) bool {
	t.Helper()
	l, ok := req.Words(line)
	if words, fine := readWords(line); ok != fine || !slices.Equal(l, words) {
		t.Fatalf("P19.2: Words(%q): %s, %v, want %s, %v", line, show(l), ok, show(words), fine)
	}
	return ok
}

func TestWordsOfEveryShortLine(t *testing.T) {
	good, bad := 0, 0
	ask := func(line string) {
		if wantWordsAsRead(t, line) {
			good++
		} else {
			bad++
		}
	}
	each(" \t\x00an\\\"'\r", 5, ask)
	each("a \\\"'", 7, ask)
	each("\\'", 12, ask)
	each("\\\"n", 8, ask)
	if good < 10000 || bad < 10000 {
		t.Errorf("too few were found: %d, %d", good, bad)
	}
}

func TestWordsOfDrawnLines(t *testing.T) {
	q := rand.New(rand.NewSource(192))
	pieces := []string{" ", "\t", "\x00", "a", "bc", "\"", "'", "\\", "\"x\"", "'y'", "\\\"", "\\'", "\\n", "\\\\", "\xff", "\u00e9", "\r", "\n", "\"a b\" ", "'c d' "}
	for range 50000 {
		line := ""
		for range q.Intn(12) {
			line += pieces[q.Intn(len(pieces))]
		}
		wantWordsAsRead(t, line)
	}
}

// draw makes bytes of requests by chance, of both forms.
func draw(q *rand.Rand) string {
	var args []string
	for range q.Intn(4) {
		args = append(args, oddTexts[q.Intn(len(oddTexts)-1)])
	}
	switch q.Intn(6) {
	case 0:
		return wholes[q.Intn(len(wholes))].from
	case 1:
		// Each word in quotes. A 10 would end the line, but a pair stands for it.
		line := ""
		for _, s := range args {
			s = strings.NewReplacer(`\`, `\\`, `"`, `\"`, "\n", `\n`).Replace(s)
			line += " \"" + s + "\""
		}
		return line + []string{"\n", "\r\n"}[q.Intn(2)]
	}
	return string(req.Make(args...))
}

// spoilt has some bytes taken away, put in or changed.
func spoilt(q *rand.Rand, from string) string {
	const likely = "\r\n\r\n*$*$0123456789- a'\"\\\x00\xff"
	l := []byte(from)
	for range 1 + q.Intn(2) {
		if len(l) == 0 {
			return ""
		}
		at := q.Intn(len(l))
		x := likely[q.Intn(len(likely))]
		switch q.Intn(4) {
		case 0:
			l = slices.Delete(l, at, at+1)
		case 1:
			l = slices.Insert(l, at, x)
		case 2:
			l[at] = x
		default:
			end := min(len(l), at+q.Intn(8))
			l = slices.Insert(l, q.Intn(len(l)), slices.Clone(l[at:end])...)
		}
	}
	return string(l)
}

func TestPlays(t *testing.T) {
	q := rand.New(rand.NewSource(19))
	found := 0
	for range 5000 {
		from := ""
		for range q.Intn(5) {
			from += lines(draw(q))
		}
		found += wantRead(t, from)
		other := spoilt(q, from)
		wantRead(t, other)
		for range 3 {
			wantDrawnCuts(t, q, from)
			wantDrawnCuts(t, q, other)
		}
		if t.Failed() {
			return
		}
	}
	if found < 8000 {
		t.Errorf("too few requests were found: %d", found)
	}
}

func TestPlaysOfAnyBytes(t *testing.T) {
	q := rand.New(rand.NewSource(91))
	const likely = "**$$01234-\r\n\r\n\r\n\r\nab '\"\\\x00\xff"
	for range 30000 {
		var l []byte
		for range q.Intn(30) {
			l = append(l, likely[q.Intn(len(likely))])
		}
		wantRead(t, string(l))
		wantDrawnCuts(t, q, string(l))
		if t.Failed() {
			return
		}
	}
}

func TestPiecesOfRows(t *testing.T) {
	for _, from := range rows() {
		if len(from) < 600 {
			wantEachCut(t, from)
		}
	}
	for _, x := range wholes {
		for _, y := range wholes {
			for _, s := range spoilts[:12] {
				wantEachCut(t, lines(x.from+y.from+s))
			}
			for _, s := range parts[:18] {
				wantEachCut(t, lines(x.from+y.from+s))
			}
		}
	}
}

func TestPiecesOfLines(t *testing.T) {
	// Where a line is known to be too great, it is so however it came.
	for n := 28; n < 38; n++ {
		for _, fill := range []string{"1", "x", "\r", "\n", "0", "\n\r"} {
			line := strings.Repeat(fill, n)[:n]
			for _, begin := range []string{"*", "*1\r\n$", "*2\r\n$0\r\n\r\n$", "a b\n*"} {
				for _, behind := range []string{"", "\r", "\n", "\r\n", "\r\r\n", "\n\r\n", "\r\n$1\r\na\r\n"} {
					wantEachCut(t, begin+line+behind)
				}
			}
		}
	}
}

func TestPiecesOfGreatOnes(t *testing.T) {
	q := rand.New(rand.NewSource(4096))
	for _, n := range []int{api.MaxInline - 1, api.MaxInline, api.MaxInline + 1, api.MaxInline + 2} {
		for _, fill := range []string{"a", "a ", "\r", "\x00", "'"} {
			for _, end := range []string{"", "\r", "\n", "\r\n", "\r\r\n", "\nPING\n"} {
				from := strings.Repeat(fill, n)[:n] + end
				// Near the bound each cut, and some far from it.
				for at := n - 4; at <= len(from); at++ {
					wantPieces(t, from, at)
					wantPieces(t, from, at-q.Intn(4), at)
					wantPieces(t, from, q.Intn(at), at)
				}
			}
		}
	}
	for _, n := range []int{api.MaxBulk - 1, api.MaxBulk, api.MaxBulk + 1} {
		from := "a\n*1\r\n$" + strconv.Itoa(n) + "\r\n" + strings.Repeat("b\r\n*", n)[:n] + "\r\n*1\r\n$1\r\na\r\n"
		for at := 0; at < len(from); at += 1 + q.Intn(4000) {
			wantPieces(t, from, at)
		}
		for at := len(from) - 20; at <= len(from); at++ {
			wantPieces(t, from, at)
		}
	}
	many := string(req.Make(slices.Repeat([]string{"x"}, api.MaxArgs)...))
	for at := range len(many) {
		wantPieces(t, many+many, at, len(many)+at)
	}
}
