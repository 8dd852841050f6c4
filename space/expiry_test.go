package space_test

import (
	"math"
	"testing"

	"tallboy/api"
	"tallboy/space"
	"tallboy/value"
)

// The chapter's run: a key with the expiry 5 is there at 4, and not at 5.
func TestRun(t *testing.T) {
	s := space.New(api.Config{})
	if s.Put("a", value.OfText("x"), 0) != api.OK || !s.Expire("a", 5, 0) || s.Get("a", 4) == nil || s.Get("a", 5) != nil {
		t.Error("P16.1: Put(a), Expire(a, 5, 0), Get(a, 4), Get(a, 5)")
	}
}

// The chapter's examples.
func TestExamples(t *testing.T) {
	s := space.New(api.Config{})
	if s.Rename("none", "b", 7) || s.Rename("none", "none", 7) {
		t.Error("P16.2: Rename of none")
	}
	s.Put("a", value.OfText("x"), 7)
	if !s.Expire("a", 0, 7) || s.Get("a", 7) != nil || s.Expire("a", 0, 7) {
		t.Error("P16.1: Expire(a, 0, 7)")
	}
}

// P16.1: a time that has come takes the key away at once, whether it had an expiry or none; one that has not is told as it is.
func TestExpire(t *testing.T) {
	for _, now := range []int64{0, 1, 7, 1000, latest - 1, latest} {
		for _, at := range []int64{math.MinInt64, -1 << 32, -5, -1, 0, 1, 2, 6, 7, 8, 999, 1000, 1001, now - 1, now, now + 1, latest, latest + 1, math.MaxInt64 - 1, math.MaxInt64} {
			for _, first := range []int64{0, now + 1, math.MaxInt64} {
				b := begun(t)
				b.text("a", "x", now)
				b.text("b", "y", now)
				if first > 0 {
					b.expire("a", first, now)
				}
				b.version("a", now)
				b.want(b.s.Expire("a", at, now), "P16.1: Expire(a, %d, %d): not there", at, now)
				b.want((b.s.Held() == 1) == (at <= now), "P16.1: Expire(a, %d, %d): %d held", at, now, b.s.Held())
				is, ok := b.s.Expiry("a", now)
				b.want((b.s.Get("a", now) != nil) == (at > now) && ok == (at > now) && (is == at && ok || is == 0 && !ok), "P16.1: Expire(a, %d, %d): %d, %t", at, now, is, ok)
				b.want(b.s.Expire("a", at, now) == (at > now), "P16.1: Expire(a, %d, %d) again", at, now)
				b.want(b.s.Get("b", now) != nil, "P16.1: Expire(a, %d, %d) takes b away", at, now)
			}
		}
	}
}

// P16.1: a key is there until its time, one behind the other.
func TestTimes(t *testing.T) {
	for _, at := range []int64{1, 2, 9, 255, 256, 1 << 31, 1 << 32, latest - 1, latest} {
		b := begun(t)
		b.timed("a", at, 0)
		for _, now := range []int64{0, at / 2, at - 1} {
			b.all(now, "a")
			is, ok := b.s.Expiry("a", now)
			b.want(b.s.Get("a", now) != nil && is == at && ok && b.s.Len(now) == 1, "P16.1: at %d, of the expiry %d", now, at)
		}
		b.all(at, "a")
		b.want(b.s.Get("a", at) == nil && b.s.Len(at) == 0, "P16.1: at %d, of that expiry", at)
		if at < latest {
			b.all(at+1, "a")
		}
	}
}

// P16.1: an expiry that is set again is the last one, sooner or later.
func TestExpireAgain(t *testing.T) {
	for _, times := range [][]int64{{5, 9}, {9, 5}, {5, 5}, {3, 9, 6}, {9, 3, 6}, {6, 6, 7, 1}, {math.MaxInt64, 4}, {4, math.MaxInt64}} {
		b := begun(t)
		b.timed("o", 6, 0)
		b.text("a", "x", 0)
		b.timed("p", 4, 0)
		for _, at := range times {
			b.expire("a", at, 0)
			b.expiry("a", 0)
			b.version("a", 0)
		}
		last := times[len(times)-1]
		for now := range int64(12) {
			b.want((b.s.Get("a", now) != nil) == (now < last), "P16.1: Expire %v: at %d", times, now)
			b.all(now, "a", "o", "p")
		}
	}
}

// P16.1: Persist and Put take an expiry away, and the key stays when its time would come.
func TestPersist(t *testing.T) {
	b := begun(t)
	for _, k := range names(9) {
		b.timed(k, 5, 0)
	}
	b.want(b.persist("k3", 0) && !b.persist("k3", 0), "P16.1: Persist")
	b.persist("k8", 4)
	b.persist("k8", 4)
	b.text("k0", "y", 4)
	b.persist("k0", 4)
	b.all(4)
	b.persist("k1", 5)
	b.persist("k3", 5)
	b.all(5, names(9)...)
	b.want(b.s.Len(5) == 3, "P16.1: Persist: %d are left", b.s.Len(5))
	b.expire("k3", 7, 5)
	b.all(7, names(9)...)
	b.want(b.s.Len(7) == 2, "P16.1: Expire behind Persist: %d are left", b.s.Len(7))
}

// states are what a key may be when it is asked for at 20, each by how it came to be so.
var states = map[string]func(b *both, k string){
	"there":           func(b *both, k string) { b.text(k, "x", 10) },
	"there until 30":  func(b *both, k string) { b.timed(k, 30, 10) },
	"there until 21":  func(b *both, k string) { b.timed(k, 21, 10) },
	"never there":     func(b *both, k string) {},
	"deleted":         func(b *both, k string) { b.text(k, "x", 10); b.delete(k, 10) },
	"deleted, timed":  func(b *both, k string) { b.timed(k, 20, 10); b.delete(k, 10) },
	"renamed":         func(b *both, k string) { b.timed(k, 20, 10); b.rename(k, "another", 10); b.delete("another", 10) },
	"due at 20":       func(b *both, k string) { b.timed(k, 20, 10) },
	"due at 15":       func(b *both, k string) { b.timed(k, 15, 10) },
	"due, then again": func(b *both, k string) { b.timed(k, 15, 10); b.text(k, "y", 16) },
	"flushed":         func(b *both, k string) { b.timed(k, 20, 10); b.flush() },
	"expired at once": func(b *both, k string) { b.text(k, "x", 10); b.expire(k, 10, 10) },
}

// P16.1 to P16.4: each call at 20 on a key of each state, the first one to ask for it; behind it everything is as the chapter says.
func TestCallsOnStates(t *testing.T) {
	calls := map[string]func(b *both){
		"Get":           func(b *both) { b.get("k", 20) },
		"Put":           func(b *both) { b.text("k", "new", 20) },
		"Put nil":       func(b *both) { b.put("k", nil, 20) },
		"Put Empty":     func(b *both) { b.put("k", made(api.Set), 20) },
		"Delete":        func(b *both) { b.delete("k", 20) },
		"Touch":         func(b *both) { b.touch("k", 20) },
		"Expire 40":     func(b *both) { b.expire("k", 40, 20) },
		"Expire 21":     func(b *both) { b.expire("k", 21, 20) },
		"Expire 20":     func(b *both) { b.expire("k", 20, 20) },
		"Expire 0":      func(b *both) { b.expire("k", 0, 20) },
		"Expiry":        func(b *both) { b.expiry("k", 20) },
		"Persist":       func(b *both) { b.persist("k", 20) },
		"Rename from":   func(b *both) { b.rename("k", "new", 20) },
		"Rename over":   func(b *both) { b.rename("k", "old", 20) },
		"Rename to":     func(b *both) { b.rename("old", "k", 20) },
		"Rename itself": func(b *both) { b.rename("k", "k", 20) },
		"Rename far":    func(b *both) { b.rename("k", tooLong, 20) },
		"Copy from":     func(b *both) { b.copy("k", "new", 20) },
		"Copy over":     func(b *both) { b.copy("k", "old", 20) },
		"Copy to":       func(b *both) { b.copy("old", "k", 20) },
		"Copy itself":   func(b *both) { b.copy("k", "k", 20) },
		"Copy far":      func(b *both) { b.copy("k", tooLong, 20) },
		"Flush":         func(b *both) { b.flush() },
		"Len":           func(b *both) { b.len(20) },
		"Keys":          func(b *both) { b.keys(20) },
		"Version":       func(b *both) { b.version("k", 20) },
		"Cycle":         func(b *both) { b.cycle(9, 20) },
		"Cycle one":     func(b *both) { b.cycle(1, 20) },
		"Scan":          func(b *both) { b.scan(0, 9, 20) },
		"Pick":          func(b *both) { b.pick(4, 20) },
		"Held":          func(b *both) { b.s.Held() },
	}
	known := []string{"k", "old", "new", "another", "timed", tooLong}
	for state, come := range states {
		for call, do := range calls {
			t.Run(call+" of a key "+state, func(t *testing.T) {
				for _, until := range []int64{0, 20, 25} {
					b := begun(t)
					come(b, "k")
					b.text("old", "o", 16)
					if until > 0 {
						b.expire("old", until, 16)
					}
					b.timed("timed", 18, 16)
					for _, k := range known {
						b.version(k, 17)
					}
					do(b)
					b.all(20, known...)
					b.cycle(99, 20)
					for _, now := range []int64{21, 25, 30, 40} {
						b.all(now, known...)
					}
				}
			})
		}
	}
}

// P16.1: many keys of a few times, that come in any order, go in the order of their times; some were set again, kept or taken away between.
func TestManyTimes(t *testing.T) {
	orders := map[string]func(n int64) int64{
		"rising":  func(n int64) int64 { return 1 + n },
		"falling": func(n int64) int64 { return 300 - n },
		"mixed":   func(n int64) int64 { return 1 + n*37%300 },
		"few":     func(n int64) int64 { return 100 + n%3 },
		"one":     func(n int64) int64 { return 50 },
	}
	for _, time := range orders {
		b := begun(t)
		for n, k := range names(300) {
			b.timed(k, time(int64(n)), 0)
		}
		for n, k := range names(300) {
			switch n % 7 {
			case 0:
				b.expire(k, time(int64(299-n)), 0)
			case 1:
				b.persist(k, 0)
			case 2:
				b.delete(k, 0)
			case 3:
				b.rename(k, k+"new", 0)
			}
		}
		for now := range int64(302) {
			b.len(now)
			b.keys(now)
			if now%25 == 0 {
				b.all(now, names(300)...)
			}
		}
	}
}
