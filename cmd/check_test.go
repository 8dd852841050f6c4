package cmd_test

import (
	"slices"
	"strings"
	"testing"

	"tallboy/api"
	"tallboy/cmd"
	"tallboy/fault"
)

func TestTheExamples(t *testing.T) {
	wantRefused(t, []string{"set", "a"}, "set", api.ErrArity)
	wantRefused(t, []string{"nosuch"}, "nosuch", api.ErrUnknown)
}

func TestCheckOfNoWords(t *testing.T) {
	room := []string{"get", "a"}
	for _, args := range [][]string{nil, {}, room[:0], room[2:]} {
		wantRefused(t, args, "", api.ErrUnknown)
	}
}

func TestCheckOfAnEmptyFirstWord(t *testing.T) {
	for _, n := range []int{1, 2, 3, 255, 256, 257, 1000} {
		wantRefused(t, words("", n), "", api.ErrUnknown)
	}
	wantRefused(t, []string{"", "get", "a"}, "", api.ErrUnknown)
	wantRefused(t, []string{"", strings.Repeat("x", 4097)}, "", api.ErrUnknown)
}

// TestCheckOfEachCount asks for each command with each number of words, in letters of each size.
func TestCheckOfEachCount(t *testing.T) {
	for _, c := range rows(t) {
		for n := 1; n <= api.MaxArgs+4; n++ {
			for _, name := range spellings(c.Name) {
				if fits(c, n) {
					wantTaken(t, words(name, n), c)
				} else {
					wantRefused(t, words(name, n), c.Name, api.ErrArity)
				}
			}
		}
		wantRefused(t, words(c.Name, 1000), c.Name, api.ErrArity)
		if t.Failed() {
			return
		}
	}
}

func TestCheckAtTheEnds(t *testing.T) {
	for _, x := range []struct {
		name string
		good []int
		bad  []int
	}{
		{"get", []int{2}, []int{1, 3, 256, 257}},
		{"set", []int{3, 4, 5, 6, 7, 8}, []int{1, 2, 9, 10, 256}},
		{"bitcount", []int{2, 3, 4}, []int{1, 5}},
		{"mget", []int{2, 3, 254, 255, 256}, []int{1, 257, 258, 512}},
		{"mset", []int{3, 5, 7, 9, 251, 253, 255}, []int{1, 2, 4, 6, 8, 252, 254, 256, 257, 258, 259}},
		{"hset", []int{4, 6, 8, 252, 254, 256}, []int{1, 2, 3, 5, 7, 9, 253, 255, 257, 258, 260}},
		{"hmget", []int{3, 4, 255, 256}, []int{1, 2, 257}},
		{"hdel", []int{3, 4, 255, 256}, []int{1, 2, 257}},
		{"hscan", []int{3, 4, 5, 6, 7}, []int{1, 2, 8, 9}},
		{"sadd", []int{3, 4, 255, 256}, []int{1, 2, 257}},
		{"linsert", []int{5}, []int{1, 2, 3, 4, 6, 256}},
		{"scan", []int{2, 3, 4, 5, 6, 7, 8}, []int{1, 9, 10}},
		{"dbsize", []int{1}, []int{2, 3, 256, 257}},
		{"ping", []int{1, 2}, []int{3, 4}},
		{"watch", []int{2, 3, 256}, []int{1, 257}},
		{"quit", []int{1}, []int{2}},
	} {
		c, ok := cmd.Lookup(x.name)
		if !ok {
			t.Fatalf("P20.1: Lookup(%s)", x.name)
		}
		for _, n := range x.good {
			wantTaken(t, words(x.name, n), c)
		}
		for _, n := range x.bad {
			wantRefused(t, words(x.name, n), x.name, api.ErrArity)
		}
	}
}

// oddWords are words of any bytes, none of them too long.
var oddWords = []string{"", "\x00", "\r\n", " ", "\xff\xfe", "\u00e9", "get", "GET", "'", "*1\r\n", "-1", "9223372036854775808", strings.Repeat("y", 4095), strings.Repeat("\xff", 4096)}

// TestOtherWordsSayNothing asks with all kinds of words behind the name.
func TestOtherWordsSayNothing(t *testing.T) {
	for _, c := range rows(t) {
		for _, odd := range oddWords {
			args := slices.Repeat([]string{odd}, c.Least)
			args[0] = c.Name
			wantTaken(t, args, c)
			args = slices.Repeat([]string{odd}, c.Most+1)
			args[0] = c.Name
			wantRefused(t, args, c.Name, api.ErrArity)
		}
	}
}

func TestCheckOfUnknownNames(t *testing.T) {
	for _, x := range []struct{ name, told string }{
		{"x", "x"},
		{"NoSuch", "nosuch"},
		{"GETS", "gets"},
		{" get", " get"},
		{"get ", "get "},
		{"'GET'", "'get'"},
		{"GET\r\n", "get\r\n"},
		{"\x00", "\x00"},
		{"\xff\xc9Z", "\xff\xc9z"},
		{"\u00c9T", "\u00c9t"},
		{"\u212aEYS", "\u212aeys"},
		{strings.Repeat("N", 63), strings.Repeat("n", 63)},
		{strings.Repeat("N", 64), strings.Repeat("n", 64)},
		{strings.Repeat("N", 65), strings.Repeat("n", 64)},
		{strings.Repeat("N", 66), strings.Repeat("n", 64)},
		{strings.Repeat("N", 128), strings.Repeat("n", 64)},
		{strings.Repeat("n", 63) + "ABC", strings.Repeat("n", 63) + "a"},
		{strings.Repeat("n", 64) + "ABC", strings.Repeat("n", 64)},
		{strings.Repeat("n", 65) + "ABC", strings.Repeat("n", 64)},
		{"GET" + strings.Repeat(" ", 61), "get" + strings.Repeat(" ", 61)},
		{"GET" + strings.Repeat("\x00", 62), "get" + strings.Repeat("\x00", 61)},
		{strings.Repeat("x", 61) + "GET", strings.Repeat("x", 61) + "get"},
		{strings.Repeat("x", 62) + "GET", strings.Repeat("x", 62) + "ge"},
		// A letter of two bytes that stands over the end is cut.
		{strings.Repeat("N", 62) + "\u00e9", strings.Repeat("n", 62) + "\u00e9"},
		{strings.Repeat("N", 63) + "\u00e9", strings.Repeat("n", 63) + "\xc3"},
		{strings.Repeat("\u00c9", 40), strings.Repeat("\u00c9", 32)},
		{strings.Repeat("N", 4096), strings.Repeat("n", 64)},
		{strings.Repeat("N", 4097), strings.Repeat("n", 64)},
		{strings.Repeat("N", 65537), strings.Repeat("n", 64)},
		{strings.Repeat("N", 1<<20), strings.Repeat("n", 64)},
	} {
		for _, n := range []int{1, 2, 3, 4, 256, 257, 300} {
			wantRefused(t, words(x.name, n), x.told, api.ErrUnknown)
		}
	}
}

func TestUnknownNamesOfEachLength(t *testing.T) {
	const mix = "aBcDeFgHiJkLmNoPqRsTuVwXyZ[@`{\x80\xc1"
	all := strings.Repeat(mix, 20)
	for n := range 200 {
		wantRefused(t, []string{all[:n]}, small(all[:min(n, 64)]), api.ErrUnknown)
		wantRefused(t, []string{all[:n], "a"}, small(all[:min(n, 64)]), api.ErrUnknown)
	}
}

// TestEachNameWithMoreBehind asks for names that go on, to some 64 bytes and beyond.
func TestEachNameWithMoreBehind(t *testing.T) {
	all := byName(t)
	for _, c := range rows(t) {
		for _, n := range []int{1, 2, 64 - len(c.Name), 65 - len(c.Name), 200} {
			for _, more := range []string{"q", "Q", " ", "\x00"} {
				name := strings.ToUpper(c.Name) + strings.Repeat(more, n)
				if _, ok := all[small(name)]; ok {
					t.Fatalf("%q is a command", name)
				}
				wantRefused(t, words(name, c.Least), small(name[:min(len(name), 64)]), api.ErrUnknown)
			}
		}
	}
}

// TestLongWords puts a word of MaxEntry bytes, and one with one more, at each place.
func TestLongWords(t *testing.T) {
	for _, c := range rows(t) {
		for n := c.Least; n <= min(c.Most, 9); n++ {
			if !fits(c, n) {
				continue
			}
			for at := 1; at < n; at++ {
				wantLong(t, c, n, at)
			}
		}
	}
}

// wantLong asks for a request of n words with one that is as long as words may be, and longer ones.
func wantLong(t *testing.T, c cmd.Command, n, at int) {
	t.Helper()
	args := words(strings.ToUpper(c.Name), n)
	args[at] = strings.Repeat("L", 4096)
	wantTaken(t, args, c)
	for _, size := range []int{4097, 4098, 8192, 65536, 65537} {
		args[at] = strings.Repeat("L", size)
		wantRefused(t, args, c.Name, api.ErrLong)
	}
}

func TestLongWordsOfGreatRequests(t *testing.T) {
	for _, c := range rows(t) {
		n := api.MaxArgs
		if c.Name == "mset" {
			n--
		}
		if c.Most != api.MaxArgs {
			continue
		}
		for _, at := range []int{1, 2, 3, n / 2, n - 2, n - 1} {
			wantLong(t, c, n, at)
		}
		args := slices.Repeat([]string{strings.Repeat("l", 4096)}, n)
		args[0] = c.Name
		wantTaken(t, args, c)
		args = slices.Repeat([]string{strings.Repeat("l", 4097)}, n)
		args[0] = c.Name
		wantRefused(t, args, c.Name, api.ErrLong)
	}
}

// TestWhichOfTwo asks where more than one refusal would fit: the name, then the words, then their bytes.
func TestWhichOfTwo(t *testing.T) {
	long := strings.Repeat("L", 4097)
	name := strings.Repeat("l", 64)
	wantRefused(t, []string{long}, name, api.ErrUnknown)
	wantRefused(t, []string{long, "a"}, name, api.ErrUnknown)
	wantRefused(t, []string{long, long}, name, api.ErrUnknown)
	wantRefused(t, words(long, 257), name, api.ErrUnknown)
	wantRefused(t, []string{"nosuch", long}, "nosuch", api.ErrUnknown)
	wantRefused(t, []string{"", long}, "", api.ErrUnknown)
	for _, c := range rows(t) {
		for n := 2; n <= api.MaxArgs+2; n++ {
			args := words(c.Name, n)
			args[n-1] = long
			why := api.ErrArity
			if fits(c, n) {
				why = api.ErrLong
			}
			wantRefused(t, args, c.Name, why)
		}
	}
	wantRefused(t, []string{"mset", "a", "b", long}, "mset", api.ErrArity)
	wantRefused(t, []string{"mset", "a", long}, "mset", api.ErrLong)
	wantRefused(t, []string{"hset", "a", "b", long, "d"}, "hset", api.ErrArity)
	wantRefused(t, []string{"hset", "a", "b", long}, "hset", api.ErrLong)
}

func TestPairs(t *testing.T) {
	of := byName(t)
	for n := 1; n <= 9; n++ {
		for _, name := range []string{"mset", "MSET", "MsEt"} {
			if n == 3 || n == 5 || n == 7 || n == 9 {
				wantTaken(t, words(name, n), of["mset"])
			} else {
				wantRefused(t, words(name, n), "mset", api.ErrArity)
			}
		}
		for _, name := range []string{"hset", "HSET", "HsEt"} {
			if n == 4 || n == 6 || n == 8 {
				wantTaken(t, words(name, n), of["hset"])
			} else {
				wantRefused(t, words(name, n), "hset", api.ErrArity)
			}
		}
		// No other command wants pairs.
		for _, name := range []string{"mget", "del", "exists", "watch", "sinter"} {
			if n > 1 {
				wantTaken(t, words(name, n), of[name])
			}
		}
	}
}

func TestWhatErrorsSay(t *testing.T) {
	for _, x := range []struct {
		args []string
		name string
		why  api.Code
		told string
	}{
		{nil, "", api.ErrUnknown, "ERR unknown command ''"},
		{[]string{""}, "", api.ErrUnknown, "ERR unknown command ''"},
		{[]string{"NoSuch", "a"}, "nosuch", api.ErrUnknown, "ERR unknown command 'nosuch'"},
		{[]string{"It's\r\n"}, "it's\r\n", api.ErrUnknown, "ERR unknown command 'it?s??'"},
		{[]string{"GET"}, "get", api.ErrArity, "ERR wrong number of arguments for 'get' command"},
		{[]string{"MSET", "a", "b", "c"}, "mset", api.ErrArity, "ERR wrong number of arguments for 'mset' command"},
		{[]string{"Get", strings.Repeat("x", 4097)}, "get", api.ErrLong, "ERR string exceeds maximum allowed size"},
	} {
		_, err := cmd.Check(x.args)
		wantOnly(t, err, x.why)
		if fault.Cmd(err) != x.name || err == nil || err.Error() == "" {
			t.Errorf("P20.2: Check of %s: %v", show(x.args), err)
		}
		if got := fault.Text(fault.Code(err), fault.Cmd(err)); got != x.told {
			t.Errorf("P20.2: Check of %s: a client is told %q", show(x.args), got)
		}
	}
	if _, err := cmd.Check([]string{"get", "a"}); err != nil || fault.Code(err) != api.OK || fault.Cmd(err) != "" || fault.Depth(err) != 0 {
		t.Errorf("P20.2: Check of what is right: %v", err)
	}
}
