package req_test

import (
	"bytes"
	"fmt"
	"math/rand"
	"slices"
	"strings"
	"testing"

	"tallboy/api"
	"tallboy/req"
)

// oddTexts are words of any bytes, such as requests are made of among them.
var oddTexts = []string{"", "a", "ab", " ", "  ", "\r", "\n", "\r\n", "\n\r", "\r\n\r\n", "a\r\n", "\r\na", "*", "$", "*1\r\n$1\r\na\r\n", "$1\r\na\r\n", "*-1\r\n", "\x00", "\x00\x00\x00", "\t", "\"", "'", "\\", "\"a b\"", "\\n", "\xff", "\xff\xfe", "\u00e9", "\xc3", "\u010d\u010a", "-1", "0", "PING", strings.Repeat("x", 31), strings.Repeat("\r\n", 40), strings.Repeat("x", 5000)}

// lines has a line's end for each bar.
func lines(s string) string {
	return strings.ReplaceAll(s, "|", "\r\n")
}

// cut is a text for messages: of great ones the beginning alone.
func cut(s string) string {
	if len(s) > 300 {
		return s[:300] + ".."
	}
	return s
}

// show tells words; nil and empty lists are the same.
func show(l []string) string {
	return fmt.Sprintf("%q", slices.Concat(l))
}

// showAll tells requests.
func showAll(l [][]string) string {
	var parts []string
	for _, words := range l {
		parts = append(parts, show(words))
	}
	return strings.Join(parts, " ")
}

// roomy is a list of bytes with spare room behind it, in which a request goes on or another one stands.
func roomy(from, behind string) []byte {
	return []byte(from + behind)[:len(from)]
}

// behinds are what may come behind a request: ends, others, and the like of what wants more.
var behinds = []string{"", "\r", "\n", "\r\n", "x", "*", "*1\r\n$1\r\na\r\n", "PING\r\n", "$", "$1\r\na\r\n", "\x00", " ", "'", strings.Repeat("y", 6000)}

// wantNext asks with each spare room, of which nothing may be seen.
func wantNext(t *testing.T, promise, from string, words []string, size int, why api.Code) {
	t.Helper()
	for _, behind := range []string{"", "|", "x", "10|", "$1|a|"} {
		l, n, c := req.Next(roomy(from, lines(behind)))
		if show(l) != show(words) || n != size || c != why {
			t.Errorf("%s: Next(%q): %s, %d, %v, want %s, %d, %v", promise, cut(from), cut(show(l)), n, c, cut(show(words)), size, why)
			return
		}
	}
}

// wantPart asks for nothing yet.
func wantPart(t *testing.T, from string) {
	t.Helper()
	wantNext(t, "P19.1", from, nil, 0, api.OK)
}

// wantWhole asks for words that all bytes are of, with others behind them, and for nothing yet of each beginning (of great ones of some).
func wantWhole(t *testing.T, from string, words ...string) {
	t.Helper()
	for _, behind := range append(behinds, from) {
		wantNext(t, "P19.1", from+behind, words, len(from), api.OK)
	}
	for n := 0; n < len(from); n += 1 + len(from)/300 {
		wantPart(t, from[:n])
	}
	wantPart(t, from[:len(from)-1])
}

// wantProto asks for a refusal, whatever comes behind it: what can't be a request does not become one.
func wantProto(t *testing.T, from string) {
	t.Helper()
	for _, behind := range behinds {
		wantNext(t, "P19.1", from+behind, nil, 0, api.ErrProto)
	}
}

// wantProtoAt asks for a refusal from so many bytes on, and for nothing yet of fewer.
func wantProtoAt(t *testing.T, from string, at int) {
	t.Helper()
	for n := range at {
		wantPart(t, from[:n])
	}
	for n := at; n <= len(from); n++ {
		wantNext(t, "P19.1", from[:n], nil, 0, api.ErrProto)
	}
	wantProto(t, from)
}

// wantWords asks twice.
func wantWords(t *testing.T, line string, words ...string) {
	t.Helper()
	for range 2 {
		if l, ok := req.Words(line); !ok || show(l) != show(words) {
			t.Errorf("P19.2: Words(%q): %s, %v, want %s", cut(line), cut(show(l)), ok, cut(show(words)))
			return
		}
	}
}

// wantNoWords asks for a false, and nothing beside it.
func wantNoWords(t *testing.T, line string) {
	t.Helper()
	for range 2 {
		if l, ok := req.Words(line); ok || len(l) > 0 {
			t.Errorf("P19.2: Words(%q): %s, %v, want none", cut(line), cut(show(l)), ok)
			return
		}
	}
}

// wantAll asks twice.
func wantAll(t *testing.T, from string, want [][]string, end int, why api.Code) {
	t.Helper()
	for range 2 {
		l, n, c := req.All(roomy(from, "\r\nx\r\n"))
		if showAll(l) != showAll(want) || n != end || c != why {
			t.Errorf("P19.3: All(%q): %s, %d, %v, want %s, %d, %v", cut(from), cut(showAll(l)), n, c, cut(showAll(want)), end, why)
			return
		}
	}
}

// wantPieces feeds bytes as they are cut at some places, each time behind what was not taken yet, and asks for what All tells of them at once.
func wantPieces(t *testing.T, from string, cuts ...int) {
	t.Helper()
	whole, end, wrong := req.All([]byte(from))
	var got [][]string
	var rest []byte
	why, taken, at := api.OK, 0, 0
	for _, next := range append(slices.Clone(cuts), len(from)) {
		rest = append(rest, from[at:next]...)
		at = next
		l, n, c := req.All(rest)
		got = append(got, l...)
		taken += n
		rest = bytes.Clone(rest[n:])
		if why != api.OK && (len(l) > 0 || n > 0 || c != why) {
			t.Errorf("P19.4: %q: %s was told behind a refusal", cut(from), showAll(l))
			return
		}
		why = c
	}
	if showAll(got) != showAll(whole) || taken != end || why != wrong {
		t.Errorf("P19.4: %q cut at %v: %s, %d, %v, at once %s, %d, %v", cut(from), cuts, cut(showAll(got)), taken, why, cut(showAll(whole)), end, wrong)
	}
}

// wantEachCut feeds bytes in two pieces, cut at each place, and byte by byte.
func wantEachCut(t *testing.T, from string) {
	t.Helper()
	var each []int
	for n := range len(from) + 1 {
		wantPieces(t, from, n)
		each = append(each, n)
	}
	wantPieces(t, from, each...)
}

// wantDrawnCuts feeds bytes in pieces that are cut by chance.
func wantDrawnCuts(t *testing.T, q *rand.Rand, from string) {
	t.Helper()
	var cuts []int
	for n := q.Intn(9); n < len(from); n += q.Intn(9) {
		cuts = append(cuts, n)
	}
	wantPieces(t, from, cuts...)
}
