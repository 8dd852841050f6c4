package req_test

import (
	"bytes"
	"runtime"
	"slices"
	"strings"
	"testing"

	"tallboy/api"
	"tallboy/req"
)

// rows are bytes of each kind: of requests, of a beginning of one, of what can't be one.
func rows() []string {
	l := []string{""}
	for _, s := range slices.Concat(parts, spoilts) {
		l = append(l, lines(s), lines("*2|$1|a|$2|bc|"+s), lines("a 'b c'|*0|"+s))
	}
	for _, x := range wholes {
		l = append(l, lines(x.from), lines(x.from+x.from))
	}
	return l
}

// spoil writes over bytes and their spare room.
func spoil(l []byte) {
	l = l[:cap(l)]
	for i := range l {
		l[i] = 'z'
	}
}

// spoilWords writes over a list and its spare room.
func spoilWords(l []string) {
	l = l[:cap(l)]
	for i := range l {
		l[i] = "spoilt"
	}
}

func TestReadingChangesNothingHandedIn(t *testing.T) {
	for _, from := range rows() {
		given := slices.Grow([]byte(from), 64)
		copy(given[len(given):cap(given)], "\r\n$1\r\na\r\n*1\r\n$1\r\na\r\n")
		was := bytes.Clone(given[:cap(given)])
		words, size, why := req.Next(given)
		l, end, wrong := req.All(given)
		if !bytes.Equal(given[:cap(given)], was) {
			t.Fatalf("R2: %q was changed", cut(from))
		}
		first, all := show(words), showAll(l)
		spoil(given)
		if show(words) != first || showAll(l) != all {
			t.Fatalf("R2: what was done to %q is seen in answers", cut(from))
		}
		// Its own length holds, whatever its spare room has.
		again, n, c := req.Next([]byte(from))
		m, k, d := req.All([]byte(from))
		if show(again) != first || n != size || c != why || showAll(m) != all || k != end || d != wrong {
			t.Fatalf("R5: spare room of %q was read", cut(from))
		}
	}
}

func TestMakeChangesNothingHandedIn(t *testing.T) {
	room := []string{"a", "", "b\r\n", "spare", "room"}
	was := slices.Clone(room)
	got := req.Make(room[:3]...)
	again := req.Make(room[:3]...)
	if !slices.Equal(room, was) {
		t.Fatalf("R2: %q was changed", was)
	}
	want := string(got)
	spoil(got)
	if !slices.Equal(room, was) || string(again) != want || string(req.Make(room[:3]...)) != want {
		t.Fatal("R2: what was done to an answer is seen elsewhere")
	}
	spoilWords(room)
	if string(again) != want {
		t.Fatal("R2: what was done to what was handed in is seen in an answer")
	}
}

func TestAnswersAreNew(t *testing.T) {
	from := []byte("*2\r\n$1\r\na\r\n$1\r\nb\r\nc d\r\n*3\r\n$1\r\ne\r\n$1\r\nf\r\n$1\r\ng\r\n")
	asks := map[string]func() [][]string{
		"All":   func() [][]string { l, _, _ := req.All(from); return l },
		"Next":  func() [][]string { l, _, _ := req.Next(from); m, _, _ := req.Next(from); return [][]string{l, m} },
		"Words": func() [][]string { l, _ := req.Words("a b"); m, _ := req.Words("a b"); return [][]string{l, m} },
	}
	for name, ask := range asks {
		want := ask()
		for i := range want {
			got := ask()
			spoilWords(got[i])
			for k := range got {
				if k != i && show(got[k]) != show(want[k]) {
					t.Errorf("R2: %s: lists %d and %d share memory", name, i, k)
				}
			}
			if showAll(ask()) != showAll(want) {
				t.Errorf("R2: %s: what was done to an answer is seen in the next one", name)
			}
		}
	}
}

// taken is how much memory a call asks for in all.
func taken(call func()) uint64 {
	var ahead, behind runtime.MemStats
	runtime.ReadMemStats(&ahead)
	call()
	runtime.ReadMemStats(&behind)
	return behind.TotalAlloc - ahead.TotalAlloc
}

func TestCountsTakeNoMemory(t *testing.T) {
	for _, from := range []string{"*256|", "*257|", "*256|$", "*256|$1|", "*2147483647|", "*9223372036854775807|", "*1|$65536|", "*1|$65536|a", "*1|$65537|", "*1|$2147483647|", "*1|$9223372036854775807|", "*256|$65536|", "*-1|", "*-9223372036854775808|"} {
		given := []byte(lines(from))
		for name, ask := range map[string]func(){"Next": func() { req.Next(given) }, "All": func() { req.All(given) }} {
			// Other parts of the process may take some of it, but not each time.
			least := taken(ask)
			for range 20 {
				least = min(least, taken(ask))
			}
			if least > 512 {
				t.Errorf("P19.1: %s(%q) takes %d bytes", name, from, least)
			}
		}
	}
}

func TestWholeOnesTakeTheirOwn(t *testing.T) {
	// What stands behind a request, or is there of one that is not whole, is not copied as a whole for each of its parts.
	behind := strings.Repeat("x", 1<<20)
	for _, from := range []string{"*1\r\n$1\r\na\r\n", "a b\r\n", "*0\r\n", "*x\r\n", "'\n"} {
		given := []byte(from + behind)
		if got := taken(func() { req.Next(given) }); got > 1<<19 {
			t.Errorf("P19.1: Next(%q..) takes %d bytes", from, got)
		}
	}
	given := []byte(strings.Repeat("*1\r\n$1\r\na\r\nb\n", 1<<16))
	if got := taken(func() { req.All(given) }); got > 1<<25 {
		t.Errorf("P19.3: All of %d bytes takes %d bytes", len(given), got)
	}
	if l, n, why := req.All(given); len(l) != 1<<17 || n != len(given) || why != api.OK {
		t.Errorf("P19.3: All: %d, %d, %v", len(l), n, why)
	}
}
