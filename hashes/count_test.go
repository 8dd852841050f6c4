package hashes_test

import (
	"math"
	"math/big"
	"strconv"
	"testing"

	"tallboy/api"
)

// ends are numbers at each bound.
var ends = []int64{math.MinInt64, math.MinInt64 + 1, math.MinInt64 + 2, -1 << 32, -10, -2, -1, 0, 1, 2, 9, 10, 99, 1 << 32, math.MaxInt64 - 2, math.MaxInt64 - 1, math.MaxInt64}

// TestCounting adds each number to each other one.
func TestCounting(t *testing.T) {
	for _, from := range ends {
		for _, by := range ends {
			for _, made := range ways {
				p := fresh(t)
				was := strconv.FormatInt(from, 10)
				p.put("a", made("f", was, "g", "x"))
				p.s.Expire("a", 9000, p.now)
				args := []string{"hincrby", "a", "f", strconv.FormatInt(by, 10)}
				sum := new(big.Int).Add(big.NewInt(from), big.NewInt(by))
				if !sum.IsInt64() {
					p.refused(api.ErrOver, args...)
					p.has("a", "f", was, "g", "x")
				} else {
					before := p.s.Version("a", p.now)
					p.number(sum.Int64(), args...)
					p.has("a", "f", sum.String(), "g", "x")
					if p.s.Version("a", p.now) > before != (by != 0) {
						t.Errorf("P22.1: hincrby by %d: the Version was %d, is %d", by, before, p.s.Version("a", p.now))
					}
				}
				p.until("a", 9000)
			}
		}
	}
}

// TestCountingOfNoField has it be the number itself, 0 too.
func TestCountingOfNoField(t *testing.T) {
	for _, by := range ends {
		n := strconv.FormatInt(by, 10)
		p := fresh(t)
		p.changes([]string{"none"}, "hincrby", "none", "f", n)
		p.has("none", "f", n)
		p.endless("none")
		p.number(by, "HINCRBY", "none", "g", n)
		p.has("none", "f", n, "g", n)
		p.timed("a", 9000, "x", "y")
		p.changes([]string{"a"}, "hincrby", "a", "f", n)
		p.has("a", "f", n, "x", "y")
		p.until("a", 9000)
		p.number(by, "hincrby", "a", "", n)
		p.has("a", "f", n, "x", "y", "", n)
	}
}

func TestCountingByNothing(t *testing.T) {
	p := fresh(t)
	p.timed("a", 9000, "f", "7", "least", least)
	p.changes(nil, "hincrby", "a", "f", "0")
	p.number(7, "hincrby", "a", "f", "0")
	p.changes(nil, "hincrby", "a", "least", "0")
	p.changes([]string{"a"}, "hincrby", "a", "none", "0")
	p.changes(nil, "hincrby", "a", "none", "0")
	p.has("a", "f", "7", "least", least, "none", "0")
	p.until("a", 9000)
}

// TestCountingWhatIsNoNumber is refused of an empty value, too.
func TestCountingWhatIsNoNumber(t *testing.T) {
	for _, s := range append(noNumbers, longest) {
		for _, made := range ways {
			p := fresh(t)
			p.put("a", made("f", s, "g", "1"))
			p.s.Expire("a", 9000, p.now)
			for _, by := range []string{"0", "1", "-1", most, least} {
				p.refused(api.ErrHashInt, "hincrby", "a", "f", by)
			}
			p.has("a", "f", s, "g", "1")
			p.until("a", 9000)
		}
	}
}

// TestCountingByWhatIsNoNumber is refused ahead of what the key and the field have.
func TestCountingByWhatIsNoNumber(t *testing.T) {
	p := fresh(t)
	p.collect()
	p.timed("a", 9000, "f", "1", "x", "x", "most", most)
	for _, n := range noNumbers {
		for _, key := range []string{"a", "none", "text", "set", "list"} {
			for _, f := range []string{"f", "x", "most", "none"} {
				p.refused(api.ErrInt, "hincrby", key, f, n)
			}
		}
	}
	p.hasNot("none")
	p.has("a", "f", "1", "x", "x", "most", most)
	for key := range others {
		p.refused(api.ErrType, "hincrby", key, "f", least)
		p.refused(api.ErrType, "hincrby", key, "f", most)
	}
}

// TestCountingOnAndOn has numbers of all lengths, up and down, and fields that come on the way.
func TestCountingOnAndOn(t *testing.T) {
	p := fresh(t)
	n := int64(0)
	for i := range int64(300) {
		by := i * i * i * i
		p.number(n+by, "hincrby", "a", "f", strconv.FormatInt(by, 10))
		p.number(n-i, "hincrby", "a", "f", strconv.FormatInt(-by-i, 10))
		p.number(i, "hincrby", "a", "g"+strconv.FormatInt(i%5, 10)+"-"+strconv.FormatInt(i, 10), strconv.FormatInt(i, 10))
		n -= i
		p.bulk(strconv.FormatInt(n, 10), "hget", "a", "f")
	}
	p.number(301, "hlen", "a")
}
