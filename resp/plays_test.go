package resp_test

import (
	"math/rand"
	"regexp"
	"slices"
	"strconv"
	"strings"
	"testing"

	"tallboy/api"
	"tallboy/reply"
	"tallboy/resp"
)

var head = regexp.MustCompile(`^(?:([+-])([^\r\n]*)|([:$*%~])(0|-?[1-9][0-9]*)|(_))\r\n`)

// readBytes is a second reading of Decode, with a stack of replies that wait for parts: what it finds must be what an Encode of either version writes. It tells 0 of no reply.
func readBytes(from string) (api.Reply, int) {
	type open struct {
		r    api.Reply
		left int64
	}
	stack := []open{{array(), 1}}
	rest := from
	for stack[0].left > 0 {
		m := head.FindStringSubmatch(rest)
		if m == nil {
			return api.Reply{}, 0
		}
		rest = rest[len(m[0]):]
		sign := m[1] + m[3] + m[5]
		r := api.Reply{Kind: map[string]int{"+": api.Simple, "-": api.Error, ":": api.Int, "$": api.Bulk, "*": api.Array, "%": api.MapReply, "~": api.SetReply, "_": api.Null}[sign], S: m[2]}
		n, left := int64(0), int64(0)
		if m[4] != "" {
			var err error
			if n, err = strconv.ParseInt(m[4], 10, 64); err != nil || sign != ":" && n > int64(len(rest)) || sign != ":" && n < -1 {
				return api.Reply{}, 0
			}
		}
		switch {
		case sign == ":":
			r.N = n
		case sign == "$" && n < 0:
			r = null
		case sign == "*" && n < 0:
			r = nullArray
		case n < 0:
			return api.Reply{}, 0
		case sign == "$":
			r.S, rest = rest[:n], rest[n:]
			if !strings.HasPrefix(rest, "\r\n") {
				return api.Reply{}, 0
			}
			rest = rest[2:]
		case sign == "%":
			left = 2 * n
		default:
			left = n
		}
		stack = append(stack, open{r, left})
		for len(stack) > 1 && stack[len(stack)-1].left == 0 {
			whole := stack[len(stack)-1].r
			stack = stack[:len(stack)-1]
			outer := &stack[len(stack)-1]
			outer.r.L = append(outer.r.L, whole)
			outer.left--
		}
	}
	r, n := stack[0].r.L[0], len(from)-len(rest)
	if reply.Depth(r) > 33 || from[:n] != read(r, false) && from[:n] != read(r, true) {
		return api.Reply{}, 0
	}
	return r, n
}

// readAll is a second reading of All.
func readAll(from string) ([]api.Reply, int) {
	var l []api.Reply
	at := 0
	for {
		r, n := readBytes(from[at:])
		if n == 0 {
			return l, at
		}
		l = append(l, r)
		at += n
	}
}

// wantRead holds bytes to the second reading, and tells whether they begin with a reply.
func wantRead(t *testing.T, from string) bool {
	t.Helper()
	want, n := readBytes(from)
	if n == 0 {
		wantNoDecode(t, from)
	} else {
		wantDecode(t, from, want, n)
		if whole := from[:n]; whole != string(resp.Encode(want, 2)) && whole != string(resp.Encode(want, 3)) {
			t.Errorf("P18.2: Decode(%q) takes what Encode does not write", cut(from))
		}
	}
	l, end := readAll(from)
	wantAll(t, from, l, end)
	return n > 0
}

// draw makes a reply by chance.
func draw(q *rand.Rand, deep int) api.Reply {
	r := api.Reply{Kind: kinds[q.Intn(len(kinds))], N: int64(q.Uint64()) >> q.Intn(64), L: []api.Reply{}}
	if q.Intn(2) == 0 {
		r.S = lineTexts[q.Intn(len(lineTexts))]
	} else {
		r.S = endTexts[q.Intn(len(endTexts))]
	}
	if q.Intn(20) == 0 {
		r.Kind = noKinds[q.Intn(len(noKinds))]
	}
	for range q.Intn(4) {
		if deep > 0 {
			r.L = append(r.L, draw(q, deep-1))
		}
	}
	return r
}

func TestPlays(t *testing.T) {
	q := rand.New(rand.NewSource(18))
	for range 6000 {
		r := draw(q, q.Intn(5))
		version := q.Intn(6) - 1
		wantEncode(t, r, version, read(r, version == 3))
		from := string(resp.Encode(r, version))
		wantDecode(t, from, told(r, version == 3), len(from))
		wantFlat(t, r, told(r, false))
		for range 6 {
			wantRead(t, spoilt(q, from+string(resp.Encode(draw(q, 1), 2+q.Intn(2)))))
		}
		if t.Failed() {
			return
		}
	}
}

// spoilt has some bytes taken away, put in or changed.
func spoilt(q *rand.Rand, from string) string {
	l := []byte(from)
	const likely = "\r\n\r\n+-:$*%~_0123456789 a\x00\xff"
	for range 1 + q.Intn(2) {
		at := q.Intn(len(l))
		x := likely[q.Intn(len(likely))]
		switch q.Intn(4) {
		case 0:
			l = slices.Delete(l, at, at+1)
		case 1:
			l = slices.Insert(l, at, x)
		case 2:
			l[at] = x
		default:
			end := min(len(l), at+q.Intn(8))
			l = slices.Insert(l, q.Intn(len(l)), slices.Clone(l[at:end])...)
		}
		if len(l) == 0 {
			return ""
		}
	}
	return string(l)
}

func TestPlaysOfPieces(t *testing.T) {
	q := rand.New(rand.NewSource(81))
	pieces := []string{"+a|", "-|", ":1|", ":-5|", "$0||", "$1|a|", "$2|||", "$-1|", "*-1|", "_|", "*0|", "*1|", "*2|", "*3|", "%0|", "%1|", "%2|", "~0|", "~1|", "~2|", "*1|", "*2|"}
	wrong := []string{"|", "+", "%-1|", "~-1|", "*-2|", "$-2|", "$3|", ":01|", "_x|", "\r", "\n", "$1|", "*9|"}
	found := 0
	for n := range 200000 {
		var from []string
		for range 1 + q.Intn(8) {
			from = append(from, pieces[q.Intn(len(pieces))])
		}
		if n%4 == 0 {
			from[q.Intn(len(from))] = wrong[q.Intn(len(wrong))]
		}
		if wantRead(t, lines(strings.Join(from, ""))) {
			found++
		}
		if t.Failed() {
			return
		}
	}
	if found < 50000 {
		t.Errorf("too few replies were found: %d", found)
	}
}

func TestEveryShortOne(t *testing.T) {
	// All rows of at most so many of these bytes.
	const signs = "+$*%~_:1-0a\r\n"
	var try func(from string, left int)
	try = func(from string, left int) {
		r, n, why := resp.Decode([]byte(from))
		want, size := readBytes(from)
		if n != size || (why == api.OK) != (size > 0) || show(r) != show(want) {
			t.Fatalf("P18.2: Decode(%q): %s, %d, %v, want %s, %d", from, show(r), n, why, show(want), size)
		}
		for i := 0; i < len(signs) && left > 0; i++ {
			try(from+signs[i:i+1], left-1)
		}
	}
	try("", 5)
	for _, begin := range []string{"*1\r\n", "$1\r\n", "%1\r\n_\r\n", "*2\r\n$-1\r\n"} {
		try(begin, 4)
	}
}
