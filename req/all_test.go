package req_test

import (
	"strings"
	"testing"

	"tallboy/api"
	"tallboy/req"
)

// wholes are bytes of whole requests, and their words.
var wholes = []struct {
	from  string
	words []string
}{
	{"*1|$4|PING|", []string{"PING"}},
	{"*2|$0||$2|||", []string{"", "\r\n"}},
	{"*1|$4|*0|||", []string{"*0\r\n"}},
	{"*0|", nil},
	{"*-1|", nil},
	{"|", nil},
	{"\n", nil},
	{" \t|", nil},
	{"PING|", []string{"PING"}},
	{"get 'a b'\n", []string{"get", "a b"}},
	{"''|", []string{""}},
}

// parts are beginnings of requests, and spoilts what can't be one.
var (
	parts   = []string{"", "*", "*1", "*1\r", "*1|", "*1|$", "*1|$1|", "*1|$1|a", "*1|$1|a\r", "*1|$1|ax", "*2|$1|a|", "PING", "PING\r", "\r", " ", "'a", "*x", "*1\n", strings.Repeat("a", api.MaxInline)}
	spoilts = []string{"*x|", "*|", "*-2|", "*257|", "*01|", "*1|x", "*1|||", "*1|$x|", "*1|$-1|", "*1|$65537|", "*1|$1|abc", "*1|$0|a|", "'a|", "'a'b\n", "*" + strings.Repeat("1", 33), strings.Repeat("a", api.MaxInline+1), strings.Repeat("a ", api.MaxArgs+1) + "\n"}
)

func TestAllOfNothing(t *testing.T) {
	for _, from := range [][]byte{nil, {}} {
		if l, n, why := req.All(from); len(l) != 0 || n != 0 || why != api.OK {
			t.Errorf("P19.3: All of nothing: %v, %d, %v", l, n, why)
		}
	}
}

func TestAllOfRows(t *testing.T) {
	// Rows of up to three requests, with each end behind them.
	var try func(from string, words [][]string, left int)
	try = func(from string, words [][]string, left int) {
		for _, s := range parts {
			wantAll(t, from+lines(s), words, len(from), api.OK)
		}
		for _, s := range spoilts {
			for _, behind := range []string{"", "\r\n", "*1\r\n$1\r\na\r\n"} {
				wantAll(t, from+lines(s)+behind, words, len(from), api.ErrProto)
			}
		}
		for _, x := range wholes {
			if left > 0 && x.words == nil {
				try(from+lines(x.from), words, left-1)
			} else if left > 0 {
				try(from+lines(x.from), append(words[:len(words):len(words)], x.words), left-1)
			}
		}
	}
	try("", nil, 3)
}

func TestAllOfNoWordsAlone(t *testing.T) {
	for _, from := range []string{"*0|", "*-1|", "|", "\n", "  |", "*0|*-1|", "||", "\n\n\n", "|*0|\n \n*-1|"} {
		wantAll(t, lines(from), nil, len(lines(from)), api.OK)
		wantAll(t, lines(from)+"x", nil, len(lines(from)), api.OK)
		wantAll(t, lines(from)+"'\n", nil, len(lines(from)), api.ErrProto)
	}
}

func TestAllOfMany(t *testing.T) {
	const n = 100000
	from := strings.Repeat("*1\r\n$1\r\na\r\n\r\n*0\r\nb c\n", n)
	l, end, why := req.All([]byte(from + "*1\r\n$9\r\n"))
	if len(l) != 2*n || end != len(from) || why != api.OK {
		t.Fatalf("P19.3: All: %d, %d, %v", len(l), end, why)
	}
	for i, words := range l {
		if want := [][]string{{"a"}, {"b", "c"}}[i%2]; show(words) != show(want) {
			t.Fatalf("P19.3: All: request %d is %s", i, show(words))
		}
	}
}

func TestAllOfGreatOnes(t *testing.T) {
	long := strings.Repeat("b", api.MaxBulk)
	var args []string
	for range api.MaxArgs {
		args = append(args, long)
	}
	from := string(req.Make(args...))
	l, end, why := req.All([]byte("x\n" + from + from + "y"))
	if len(l) != 3 || len(l[1]) != api.MaxArgs || len(l[2]) != api.MaxArgs || l[2][255] != long || end != 2*len(from)+2 || why != api.OK {
		t.Errorf("P19.3: All of great ones: %d, %d, %v", len(l), end, why)
	}
}
