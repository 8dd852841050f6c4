package resp_test

import (
	"bytes"
	"runtime"
	"slices"
	"strings"
	"testing"

	"tallboy/api"
	"tallboy/resp"
)

// spoil writes over a list and its spare room, and over those of all parts.
func spoil(l []api.Reply) {
	l = l[:cap(l)]
	for i := range l {
		spoil(l[i].L)
		l[i] = failure("spoilt")
	}
}

// roomy is r with spare room in each list, full of what is none of its parts.
func roomy(r api.Reply) api.Reply {
	l := make([]api.Reply, 0, len(r.L)+3)
	for _, p := range r.L {
		l = append(l, roomy(p))
	}
	n := len(l)
	r.L = append(l, of(-7), a, array(a))[:n]
	return r
}

// opened is r with its spare room as parts.
func opened(r api.Reply) api.Reply {
	l := r.L[:cap(r.L)]
	r.L = nil
	for _, p := range l {
		r.L = append(r.L, opened(p))
	}
	return r
}

func TestWritingChangesNothingHandedIn(t *testing.T) {
	for _, x := range all() {
		r := roomy(filled(x))
		was := show(opened(r))
		second, third, flat := resp.Encode(r, 2), resp.Encode(r, 3), resp.Flat(r)
		if show(opened(r)) != was {
			t.Fatalf("R2: %s was changed", cut(was))
		}
		if string(second) != read(x, false) || string(third) != read(x, true) {
			t.Fatalf("R5: spare room of %s was read", cut(was))
		}
		told := show(flat)
		spoil(flat.L)
		spoilBytes(second)
		spoilBytes(third)
		if show(opened(r)) != was {
			t.Fatalf("R2: what was done to answers is seen in %s", cut(was))
		}
		second, third, flat = resp.Encode(r, 2), resp.Encode(r, 3), resp.Flat(r)
		spoil(r.L)
		if string(second) != read(x, false) || string(third) != read(x, true) || show(flat) != told {
			t.Fatalf("R2: what was done to %s is seen in answers", cut(was))
		}
	}
}

// spoilBytes writes over bytes and their spare room.
func spoilBytes(l []byte) {
	l = l[:cap(l)]
	for i := range l {
		l[i] = 'x'
	}
}

func TestReadingChangesNothingHandedIn(t *testing.T) {
	for _, x := range all() {
		for version := 2; version <= 3; version++ {
			from := resp.Encode(array(x, a), version)
			size := len(from)
			room := slices.Concat(from, from, []byte("+OK\r\n"))
			was := bytes.Clone(room)
			given := room[:size]
			r, n, _ := resp.Decode(given)
			l, at := resp.All(given)
			if !bytes.Equal(room, was) {
				t.Fatalf("R2: %q was changed", cut(string(was)))
			}
			if n != size || at != size || len(l) != 1 {
				t.Fatalf("R5: spare room of %q was read", cut(string(given)))
			}
			resp.Decode(room[:size-1])
			if _, _, why := resp.Decode(room[:size-1]); why != api.ErrForm {
				t.Fatalf("R5: spare room of %q was read", cut(string(given)))
			}
			first, second := show(r), show(array(l...))
			spoilBytes(room)
			if show(r) != first || show(array(l...)) != second {
				t.Fatalf("R2: what was done to %q is seen in answers", cut(string(was)))
			}
		}
	}
}

func TestListsOfOneAnswerShareNothing(t *testing.T) {
	x := array(array(a, b), array(a), array(), array(one, array(two), array(two, null)))
	from := slices.Concat(resp.Encode(x, 2), resp.Encode(x, 2), resp.Encode(x, 2))
	answers := map[string]func() []api.Reply{
		"Decode": func() []api.Reply { r, _, _ := resp.Decode(from); return r.L },
		"All":    func() []api.Reply { l, _ := resp.All(from); return l },
		"Flat":   func() []api.Reply { return resp.Flat(pairs(x, x, array(x.L[0], x.L[0]))).L },
	}
	for name, ask := range answers {
		want := ask()
		for i := range want {
			got := ask()
			spoil(got[i].L)
			for k := range got {
				if k != i && show(got[k]) != show(want[k]) {
					t.Errorf("R2: %s: lists %d and %d share memory", name, i, k)
				}
			}
		}
	}
}

// taken is how much memory a call asks for in all.
func taken(call func()) uint64 {
	var ahead, behind runtime.MemStats
	runtime.ReadMemStats(&ahead)
	call()
	runtime.ReadMemStats(&behind)
	return behind.TotalAlloc - ahead.TotalAlloc
}

func TestCountsTakeNoMemory(t *testing.T) {
	parts := strings.Repeat(":1\r\n", 20)
	for _, n := range []string{"500", "1000", "100000", "100000000", "2147483647", "2147483648", "4294967296", "4294967297", "99999999999", "4611686018427387904", "4611686018427387905", "9223372036854775807"} {
		for _, from := range []string{"*" + n + "\r\n", "%" + n + "\r\n", "~" + n + "\r\n", "$" + n + "\r\n"} {
			for _, x := range []string{from, from + parts, "*2\r\n" + from, strings.Repeat(from, 32), strings.Repeat(from, 32) + parts} {
				given := []byte(x)
				if got := taken(func() { wantNoDecode(t, string(given)) }); got > 1<<20 {
					t.Errorf("P18.2: Decode(%q) takes %d bytes", cut(x), got)
				}
				if got := taken(func() { resp.All(given) }); got > 1<<20 {
					t.Errorf("P18.2: All(%q) takes %d bytes", cut(x), got)
				}
			}
		}
	}
}

func TestCountsInCountsTakeNoMemory(t *testing.T) {
	// Each list says that it has as many parts as could follow, but a text has all that follows.
	for _, sign := range []string{"*", "~", "%"} {
		given := []byte(strings.Repeat(sign+"300000\r\n", 32) + "$2000000\r\n" + strings.Repeat("x", 2000000) + "\r\n")
		if got := taken(func() { resp.Decode(given) }); got > 3*uint64(len(given)) {
			t.Errorf("P18.2: %d bytes take %d bytes", len(given), got)
		}
	}
}
