package cmd_test

import (
	"math/rand"
	"strings"
	"testing"

	"tallboy/api"
	"tallboy/cmd"
)

// reading is the chapter's Check a second time: what it asks for, or of which name and why it is refused.
func reading(all map[string]cmd.Command, args []string) (cmd.Command, string, api.Code) {
	if len(args) == 0 {
		return cmd.Command{}, "", api.ErrUnknown
	}
	told := small(args[0])
	if len(told) > 64 {
		told = told[:64]
	}
	c, ok := all[small(args[0])]
	if !ok {
		return cmd.Command{}, told, api.ErrUnknown
	}
	if !fits(c, len(args)) {
		return cmd.Command{}, told, api.ErrArity
	}
	for _, s := range args {
		if len(s) >= api.MaxEntry+1 {
			return cmd.Command{}, told, api.ErrLong
		}
	}
	return c, "", api.OK
}

// drawName is a command's, as it may be spelt or spoilt, or any bytes.
func drawName(q *rand.Rand, names []string) string {
	b := []byte(names[q.Intn(len(names))])
	for i := range b {
		if q.Intn(3) == 0 {
			b[i] -= 'a' - 'A'
		}
	}
	switch q.Intn(8) {
	case 0:
		b[q.Intn(len(b))] = byte(q.Intn(256))
	case 1:
		b = append(b, byte(q.Intn(256)))
	case 2:
		b = []byte(strings.Repeat(string(b), q.Intn(30)))
	case 3:
		b = b[:q.Intn(len(b))]
	}
	return string(b)
}

// drawArgs is a request.
func drawArgs(q *rand.Rand, names, texts []string) []string {
	n := q.Intn(10)
	if q.Intn(10) == 0 {
		n = q.Intn(300)
	}
	var args []string
	for len(args) < n {
		args = append(args, texts[q.Intn(len(texts))])
		if q.Intn(60) == 0 {
			args[len(args)-1] = strings.Repeat("L", 4090+q.Intn(12))
		}
	}
	if n > 0 && q.Intn(20) > 0 {
		args[0] = drawName(q, names)
	}
	return args
}

func TestDrawnRequests(t *testing.T) {
	all := byName(t)
	names := sortedNames(rows(t))
	q := rand.New(rand.NewSource(20))
	seen := map[api.Code]int{}
	for range 100000 {
		args := drawArgs(q, names, oddWords)
		c, name, why := reading(all, args)
		seen[why]++
		if why == api.OK {
			wantTaken(t, args, c)
		} else {
			wantRefused(t, args, name, why)
		}
		if t.Failed() {
			return
		}
	}
	for _, why := range []api.Code{api.OK, api.ErrUnknown, api.ErrArity, api.ErrLong} {
		if seen[why] < 500 {
			t.Errorf("too few were drawn of %v: %d", why, seen[why])
		}
	}
	if len(seen) != 4 {
		t.Errorf("P20.2: %v", seen)
	}
}

// TestCheckTellsWhatLookupTells holds the two to each other: what is taken is what its name finds.
func TestCheckTellsWhatLookupTells(t *testing.T) {
	names := cmd.Names()
	q := rand.New(rand.NewSource(202))
	for range 20000 {
		args := drawArgs(q, names, oddWords)
		c, err := cmd.Check(args)
		if err != nil {
			continue
		}
		if found, ok := cmd.Lookup(args[0]); !ok || found != c || c.Name != cmd.Lower(args[0]) {
			t.Fatalf("P20.2: Check of %s: %+v, Lookup: %+v", show(args), c, found)
		}
	}
}
