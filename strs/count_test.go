package strs_test

import (
	"math"
	"math/big"
	"strconv"
	"testing"

	"tallboy/api"
)

// ends are numbers at each bound.
var ends = []int64{math.MinInt64, math.MinInt64 + 1, math.MinInt64 + 2, -1 << 32, -10, -2, -1, 0, 1, 2, 9, 10, 99, 1 << 32, math.MaxInt64 - 2, math.MaxInt64 - 1, math.MaxInt64}

// sum is a and by together, in numbers without ends; false if it is no int64.
func sum(a, by *big.Int) (int64, bool) {
	n := new(big.Int).Add(a, by)
	if !n.IsInt64() {
		return 0, false
	}
	return n.Int64(), true
}

// wantCount asks for a number that goes up by something.
func wantCount(t *testing.T, from int64, by *big.Int, args ...string) {
	t.Helper()
	p := fresh(t)
	p.timed("a", strconv.FormatInt(from, 10), 9000)
	want, ok := sum(big.NewInt(from), by)
	if !ok {
		p.refused(api.ErrOver, args...)
		p.has("a", strconv.FormatInt(from, 10))
		p.until("a", 9000)
		return
	}
	p.number(want, args...)
	p.has("a", strconv.FormatInt(want, 10))
	p.until("a", 9000)
}

func TestCounting(t *testing.T) {
	for _, from := range ends {
		wantCount(t, from, big.NewInt(1), "incr", "a")
		wantCount(t, from, big.NewInt(-1), "decr", "a")
		for _, by := range ends {
			wantCount(t, from, big.NewInt(by), "incrby", "a", strconv.FormatInt(by, 10))
			if by > math.MinInt64 {
				wantCount(t, from, big.NewInt(-by), "decrby", "a", strconv.FormatInt(by, 10))
			} else {
				p := fresh(t)
				p.text("a", strconv.FormatInt(from, 10))
				p.refused(api.ErrOver, "decrby", "a", least)
			}
		}
	}
}

func TestCountingAtTheEnds(t *testing.T) {
	p := fresh(t)
	p.text("most", most)
	p.text("least", least)
	p.refused(api.ErrOver, "incr", "most")
	p.refused(api.ErrOver, "decr", "least")
	p.refused(api.ErrOver, "incrby", "most", "1")
	p.refused(api.ErrOver, "incrby", "least", "-1")
	p.refused(api.ErrOver, "decrby", "most", "-1")
	p.refused(api.ErrOver, "decrby", "least", "1")
	p.number(math.MaxInt64, "incrby", "most", "0")
	p.number(math.MinInt64, "decrby", "least", "0")
	p.number(math.MaxInt64-1, "decr", "most")
	p.number(math.MinInt64+1, "incr", "least")
	p.number(math.MaxInt64, "incr", "most")
	p.number(math.MinInt64, "decr", "least")
	p.number(-1, "incrby", "most", least)
	p.number(-1, "incrby", "least", most)
	p.number(math.MaxInt64, "incrby", "new", most)
	p.number(math.MinInt64, "incrby", "new2", least)
	p.number(-math.MaxInt64, "decrby", "new3", most)
	p.refused(api.ErrOver, "decrby", "new4", least)
	p.hasNot("new4")
}

// TestTheNumberWithoutANegative is refused ahead of what keys have.
func TestTheNumberWithoutANegative(t *testing.T) {
	p := fresh(t)
	p.collect()
	p.text("x", "x")
	p.text("a", "1")
	p.text("empty", "")
	for _, key := range []string{"none", "a", "x", "empty", "hash", "set", "list"} {
		p.refused(api.ErrOver, "decrby", key, least)
		p.refused(api.ErrOver, "DECRBY", key, least)
	}
	for key := range collections {
		p.refused(api.ErrType, "incrby", key, least)
		p.refused(api.ErrType, "incrby", key, most)
		p.refused(api.ErrType, "decrby", key, most)
		p.refused(api.ErrType, "decrby", key, "-9223372036854775807")
	}
	p.refused(api.ErrInt, "decrby", "x", "-9223372036854775807")
	p.refused(api.ErrInt, "incrby", "x", least)
}

// TestCountingByWhatIsNoNumber is refused ahead of what keys have.
func TestCountingByWhatIsNoNumber(t *testing.T) {
	p := fresh(t)
	p.collect()
	p.text("x", "x")
	p.timed("a", "1", 9000)
	for _, n := range noNumbers {
		for _, key := range []string{"none", "a", "x", "hash", "set", "list"} {
			p.refused(api.ErrInt, "incrby", key, n)
			p.refused(api.ErrInt, "decrby", key, n)
		}
	}
	p.hasNot("none")
}

// TestCountingWhatIsNoNumber is refused but of an empty text, which is as 0.
func TestCountingWhatIsNoNumber(t *testing.T) {
	for _, s := range append(noNumbers, longest) {
		p := fresh(t)
		p.timed("a", s, 9000)
		for _, args := range [][]string{{"incr", "a"}, {"decr", "a"}, {"incrby", "a", "0"}, {"incrby", "a", "5"}, {"incrby", "a", most}, {"decrby", "a", "0"}, {"decrby", "a", "5"}} {
			if s != "" {
				p.refused(api.ErrInt, args...)
			}
		}
		if s == "" {
			p.number(1, "incr", "a")
			p.has("a", "1")
		}
	}
	for name, want := range map[string]int64{"incr": 1, "decr": -1, "incrby": 2, "decrby": -2} {
		p := fresh(t)
		p.timed("a", "", 9000)
		p.changes([]string{"a"}, of(name, "a")...)
		p.has("a", strconv.FormatInt(want, 10))
		p.until("a", 9000)
	}
}

// TestCountingByNothing changes a text of no bytes, and one that is not there, alone.
func TestCountingByNothing(t *testing.T) {
	for _, name := range []string{"incrby", "decrby"} {
		p := fresh(t)
		p.timed("a", "7", 9000)
		p.timed("empty", "", 9000)
		p.changes(nil, name, "a", "0")
		p.changes([]string{"empty"}, name, "empty", "0")
		p.has("empty", "0")
		p.until("empty", 9000)
		p.changes([]string{"none"}, name, "none", "0")
		p.has("none", "0")
		p.endless("none")
		p.changes(nil, name, "none", "0")
		p.until("a", 9000)
	}
}

// TestCountingOnAndOn has numbers of all lengths, up and down.
func TestCountingOnAndOn(t *testing.T) {
	p := fresh(t)
	n := int64(0)
	for i := range int64(400) {
		p.number(n+1, "INCR", "a")
		p.number(n+1-i*i*i, "decrby", "a", strconv.FormatInt(i*i*i, 10))
		p.number(n+1+i, "incrby", "a", strconv.FormatInt(i*i*i+i, 10))
		p.number(n+i, "DECR", "a")
		n += i
		p.has("a", strconv.FormatInt(n, 10))
	}
}
