package strs_test

import (
	"math"
	"slices"
	"strconv"
	"strings"
	"testing"

	"tallboy/api"
)

// option is a set's option with its words, of which those of one sort can't stand together.
type option struct {
	words []string
	sort  int
}

// allOptions are those that the chapter names.
func allOptions() []option {
	return []option{
		{[]string{"NX"}, 1}, {[]string{"XX"}, 1}, {[]string{"GET"}, 2},
		{[]string{"EX", "5"}, 3}, {[]string{"PX", "5"}, 3}, {[]string{"KEEPTTL"}, 3},
	}
}

// spelt are words in great letters, in small ones, and in both.
func spelt(words []string) [][]string {
	var small, mixed, other []string
	for _, s := range words {
		small = append(small, strings.ToLower(s))
		mixed = append(mixed, s[:1]+strings.ToLower(s[1:]))
		other = append(other, strings.ToLower(s[:1])+s[1:])
	}
	return [][]string{words, small, mixed, other}
}

// wantSet asks what set does with these options over a key as the play has it.
func wantSet(p *play, key string, words []string) {
	p.Helper()
	v := p.s.Get(key, p.now)
	at, timed := p.s.Expiry(key, p.now)
	has := func(s string) bool {
		return slices.ContainsFunc(words, func(o string) bool { return strings.EqualFold(o, s) })
	}
	done := !(has("NX") && v != nil || has("XX") && v == nil)
	told := null
	switch {
	case has("GET") && v != nil:
		told = api.Reply{Kind: api.Bulk, S: v.Text}
	case !has("GET") && done:
		told = api.Reply{Kind: api.Simple, S: "OK"}
	}
	if done {
		switch {
		case has("EX"):
			at, timed = p.now+5000, true
		case has("PX"):
			at, timed = p.now+5, true
		case !has("KEEPTTL"):
			timed = false
		}
	}
	p.tells(told, append([]string{"set", key, "new"}, words...)...)
	switch {
	case done:
		p.has(key, "new")
	case v == nil:
		p.hasNot(key)
	default:
		p.has(key, v.Text)
	}
	if timed {
		p.until(key, at)
	} else if _, ok := p.s.Expiry(key, p.now); ok {
		p.Errorf("P21.1: set with %s: an expiry", show(words))
	}
}

// wantSets asks it of a key that is not there, of one that is, and of one with an expiry.
func wantSets(t *testing.T, words []string) {
	t.Helper()
	for _, w := range spelt(words) {
		p := fresh(t)
		p.text("there", "old")
		p.timed("timed", "old", 9000)
		p.text("empty", "")
		for _, key := range []string{"none", "there", "timed", "empty"} {
			wantSet(p, key, w)
		}
	}
}

func TestSetAlone(t *testing.T) {
	wantSets(t, nil)
	for _, o := range allOptions() {
		wantSets(t, o.words)
	}
}

func TestSetWithTwo(t *testing.T) {
	for _, a := range allOptions() {
		for _, b := range allOptions() {
			words := slices.Concat(a.words, b.words)
			if a.sort != b.sort {
				wantSets(t, words)
				continue
			}
			p := fresh(t)
			p.text("there", "old")
			p.collect()
			for _, w := range spelt(words) {
				for _, key := range []string{"none", "there", "hash"} {
					p.refused(api.ErrSyntax, append([]string{"set", key, "v"}, w...)...)
				}
			}
		}
	}
}

func TestSetWithThree(t *testing.T) {
	for _, a := range allOptions() {
		for _, b := range allOptions() {
			for _, c := range allOptions() {
				words := slices.Concat(a.words, b.words, c.words)
				if a.sort != b.sort && b.sort != c.sort && a.sort != c.sort {
					wantSets(t, words)
				} else if len(words) <= 5 {
					fresh(t).refused(api.ErrSyntax, append([]string{"set", "a", "v"}, words...)...)
				} else {
					fresh(t).refused(api.ErrArity, append([]string{"set", "a", "v"}, words...)...)
				}
			}
		}
	}
}

// TestSetWithWordsThatAreNone has a word that is no option, at each place.
func TestSetWithWordsThatAreNone(t *testing.T) {
	p := fresh(t)
	p.text("there", "old")
	p.collect()
	for _, word := range []string{"", "foo", "N", "NXX", "NX ", " NX", "nx\x00", "GE", "GETS", "E", "EXX", "P", "PXX", "KEEPTT", "KEEPTTLS", "5", "-1", "EXAT", "PXAT", "OK", "XN", "\xceX", "\u212aEEPTTL", longest[:api.MaxEntry]} {
		for _, key := range []string{"none", "there", "hash"} {
			p.refused(api.ErrSyntax, "set", key, "v", word)
			for _, o := range allOptions() {
				p.refused(api.ErrSyntax, slices.Concat([]string{"set", key, "v", word}, o.words)...)
				p.refused(api.ErrSyntax, slices.Concat([]string{"set", key, "v"}, o.words, []string{word})...)
			}
			p.refused(api.ErrSyntax, "set", key, "v", "nx", word, "get")
		}
	}
}

// TestSetWithoutANumber has EX and PX as the last word.
func TestSetWithoutANumber(t *testing.T) {
	p := fresh(t)
	p.collect()
	for _, o := range []string{"EX", "PX", "ex", "px", "Ex", "pX"} {
		for _, key := range []string{"none", "hash"} {
			p.refused(api.ErrSyntax, "set", key, "v", o)
			p.refused(api.ErrSyntax, "set", key, "v", "NX", o)
			p.refused(api.ErrSyntax, "set", key, "v", "GET", "XX", o)
			p.refused(api.ErrSyntax, "set", key, "v", o, "5", o)
			p.refused(api.ErrSyntax, "set", key, "v", "KEEPTTL", o)
			// Whatever stands behind it is its number.
			p.refused(api.ErrInt, "set", key, "v", o, "NX")
			p.refused(api.ErrInt, "set", key, "v", o, "GET")
			p.refused(api.ErrInt, "set", key, "v", o, o)
			p.refused(api.ErrInt, "set", key, "v", o, "KEEPTTL", "NX")
			p.refused(api.ErrSyntax, "set", key, "v", o, "NX", "5")
		}
	}
}

// noNumbers are texts that num.Parse does not take.
var noNumbers = []string{"", "x", "-", "+1", "01", "00", "-0", "-01", " 1", "1 ", "1\x00", "1.0", "1e3", "0x1", "9223372036854775808", "-9223372036854775809", "99999999999999999999", "18446744073709551617"}

func TestSetWithWhatIsNoNumber(t *testing.T) {
	p := fresh(t)
	p.text("there", "old")
	p.collect()
	for _, n := range noNumbers {
		for _, key := range []string{"none", "there", "hash"} {
			for _, o := range []string{"EX", "px"} {
				p.refused(api.ErrInt, "set", key, "v", o, n)
				p.refused(api.ErrInt, "set", key, "v", "GET", o, n)
				p.refused(api.ErrInt, "set", key, "v", o, n, "GET")
				p.refused(api.ErrInt, "set", key, "v", o, n, "NX")
				p.refused(api.ErrInt, "set", key, "v", "XX", o, n)
				// Words are read to their end ahead of numbers.
				p.refused(api.ErrSyntax, "set", key, "v", o, n, "foo")
				p.refused(api.ErrSyntax, "set", key, "v", o, n, "GET", "GET")
				p.refused(api.ErrSyntax, "set", key, "v", o, n, "KEEPTTL")
			}
		}
	}
}

func TestSetWithNumbersBelow1(t *testing.T) {
	p := fresh(t)
	p.text("there", "old")
	p.collect()
	for _, n := range []string{"0", "-1", "-2", "-5", "-1000", "-9223372036854775", "-9223372036854776", "-4611686018427387905", "-13835058055282163", "-9223372036854775807", least} {
		for _, key := range []string{"none", "there", "hash"} {
			for _, o := range []string{"EX", "PX"} {
				p.refused(api.ErrExpire, "set", key, "v", o, n)
				p.refused(api.ErrExpire, "set", key, "v", "GET", o, n)
				p.refused(api.ErrExpire, "set", key, "v", "NX", o, n)
				p.refused(api.ErrExpire, "set", key, "v", o, n, "XX")
				p.refused(api.ErrSyntax, "set", key, "v", o, n, "foo")
			}
		}
	}
	for _, o := range []string{"EX", "PX"} {
		p.ok("set", "a", "v", o, "1")
	}
	p.until("a", p.now+1)
}

// TestSetAtTheLastTime has the numbers with which the time just is an int64, and just isn't.
func TestSetAtTheLastTime(t *testing.T) {
	for _, now := range []int64{0, 1, 5, 806, 807, 808, 999, 1000, 1001, 123456789, latest - 1, latest} {
		p := fresh(t)
		p.now = now
		p.collect()
		room := math.MaxInt64 - now
		for _, x := range []struct {
			option string
			n, at  int64
		}{
			{"PX", 1, now + 1}, {"PX", 2, now + 2}, {"PX", 1 << 40, now + 1<<40}, {"PX", room - 1, math.MaxInt64 - 1}, {"PX", room, math.MaxInt64},
			{"EX", 1, now + 1000}, {"EX", 2, now + 2000}, {"EX", room/1000 - 1, now + (room/1000-1)*1000}, {"EX", room / 1000, now + room/1000*1000},
		} {
			p.ok("set", "a", "v", x.option, strconv.FormatInt(x.n, 10))
			p.until("a", x.at)
			p.ok("set", "hash", "v", x.option, strconv.FormatInt(x.n, 10))
			p.until("hash", x.at)
		}
		p.text("there", "old")
		p.collect()
		for _, key := range []string{"none", "there", "hash"} {
			for _, n := range []int64{room/1000 + 1, room/1000 + 2, math.MaxInt64/1000 + 1, math.MaxInt64/1000 + 2, math.MaxInt64/500 + 1, 1 << 61, 1 << 62, math.MaxInt64} {
				p.refused(api.ErrExpire, "set", key, "v", "EX", strconv.FormatInt(n, 10))
			}
			for n := range min(now, 3) {
				p.refused(api.ErrExpire, "set", key, "v", "PX", strconv.FormatInt(room+1+n, 10))
				p.refused(api.ErrExpire, "set", key, "v", "PX", strconv.FormatInt(math.MaxInt64-n, 10))
			}
		}
	}
}

// TestSetOnlyIf has NX and XX over keys that are there, that are not, and of another Kind, with GET and without.
func TestSetOnlyIf(t *testing.T) {
	for _, o := range []string{"NX", "XX", "nx", "xx"} {
		there := strings.EqualFold(o, "XX")
		p := fresh(t)
		p.collect()
		p.timed("there", "old", 9000)
		for key := range collections {
			p.refused(api.ErrType, "set", key, "v", o, "GET")
			p.refused(api.ErrType, "set", key, "v", "GET", o)
			if there {
				p.ok("set", key, "v", o)
				p.has(key, "v")
				p.endless(key)
			} else {
				p.null("set", key, "v", o)
				p.until(key, 1500)
			}
		}
		if there {
			p.null("set", "none", "v", o)
			p.null("set", "none", "v", o, "GET")
			p.null("set", "none", "v", o, "GET", "EX", "5")
			p.hasNot("none")
			p.bulk("old", "set", "there", "v", "GET", o)
			p.has("there", "v")
			p.endless("there")
			continue
		}
		p.null("set", "there", "v", o)
		p.null("set", "there", "v", o, "EX", "5")
		p.bulk("old", "set", "there", "v", "GET", o)
		p.bulk("old", "set", "there", "v", "GET", o, "PX", "5")
		p.has("there", "old")
		p.until("there", 9000)
		p.null("set", "none", "v", o, "GET")
		p.has("none", "v")
		p.ok("set", "other", "v", o)
		p.has("other", "v")
	}
}

// TestSetOnlyIfChangesNothing holds that what is not done is no change.
func TestSetOnlyIfChangesNothing(t *testing.T) {
	p := fresh(t)
	p.timed("there", "old", 9000)
	p.collect()
	p.changes(nil, "set", "there", "v", "NX")
	p.changes(nil, "set", "there", "old", "NX", "EX", "5")
	p.changes(nil, "set", "there", "v", "NX", "GET", "KEEPTTL")
	p.changes(nil, "set", "none", "v", "XX")
	p.changes(nil, "set", "none", "v", "XX", "GET")
	p.changes(nil, "set", "none", "v", "XX", "PX", "5")
	p.changes(nil, "set", "list", "v", "NX")
	p.changes([]string{"there"}, "set", "there", "old", "XX")
	p.changes([]string{"none"}, "set", "none", "v", "NX")
	p.changes([]string{"list"}, "set", "list", "v", "XX")
}

func TestKeepTTL(t *testing.T) {
	p := fresh(t)
	p.collect()
	p.timed("timed", "old", 9000)
	p.text("there", "old")
	for _, words := range [][]string{{"KEEPTTL"}, {"keepttl", "GET"}, {"XX", "KeepTTL"}} {
		args := append([]string{"set", "timed", "new"}, words...)
		p.changes([]string{"timed"}, args...)
		p.has("timed", "new")
		p.until("timed", 9000)
		p.text("there", "old")
		args[1] = "there"
		p.changes([]string{"there"}, args...)
		p.has("there", "new")
		p.endless("there")
	}
	p.ok("set", "none", "new", "KEEPTTL")
	p.has("none", "new")
	p.endless("none")
	p.ok("set", "set", "new", "KEEPTTL")
	p.has("set", "new")
	p.until("set", 1500)
	// The expiry comes as it would have come.
	p.now = 1499
	p.has("set", "new")
	p.now = 1500
	p.hasNot("set")
	p.now = 8999
	p.bulk("new", "get", "timed")
	p.now = 9000
	p.null("get", "timed")
	p.ok("set", "timed", "newer", "KEEPTTL")
	p.endless("timed")
}

// TestPlainSetEndsAnExpiry has what Puts a text.
func TestPlainSetEndsAnExpiry(t *testing.T) {
	for _, args := range [][]string{
		{"set", "a", "1"}, {"set", "a", "old"}, {"set", "a", "1", "XX"}, {"set", "a", "1", "GET"}, {"getset", "a", "1"}, {"getset", "a", "old"}, {"mset", "a", "1"}, {"mset", "a", "old", "a", "old"},
	} {
		p := fresh(t)
		p.timed("a", "old", 9000)
		p.changes([]string{"a"}, args...)
		p.endless("a")
		p.now = 9000
		p.number(int64(len(args[2])), "strlen", "a")
	}
}

// TestSetAgain sets another expiry over one, and over none.
func TestSetAgain(t *testing.T) {
	p := fresh(t)
	p.ok("set", "a", "1", "EX", "5")
	p.until("a", 6000)
	p.ok("set", "a", "2", "PX", "5")
	p.until("a", 1005)
	p.ok("set", "a", "3", "EX", "7", "XX")
	p.until("a", 8000)
	p.bulk("3", "set", "a", "4", "PX", "4000", "GET")
	p.until("a", 5000)
	p.refused(api.ErrExpire, "set", "a", "5", "EX", "0")
	p.has("a", "4")
	p.until("a", 5000)
	p.now = 4999
	p.bulk("4", "get", "a")
	p.now = 5000
	p.null("get", "a")
}

// TestSetOfWordsThatLookLikeOptions has keys and texts that are options' names.
func TestSetOfWordsThatLookLikeOptions(t *testing.T) {
	p := fresh(t)
	p.ok("set", "NX", "XX")
	p.ok("set", "EX", "5")
	p.null("set", "GET", "KEEPTTL", "XX", "EX", "5", "get")
	p.ok("set", "GET", "KEEPTTL")
	p.bulk("KEEPTTL", "set", "GET", "nx", "XX", "EX", "5", "get")
	p.has("NX", "XX")
	p.has("EX", "5")
	p.has("GET", "nx")
	p.until("GET", 6000)
}
