package space_test

import (
	"testing"

	"tallboy/api"
	"tallboy/value"
)

// P16.2: Rename onto a key that is there or not, with an expiry or none on either side: to has what from had, and nothing of its own.
func TestRename(t *testing.T) {
	for _, kind := range kinds {
		for _, from := range []int64{0, 30, 40} {
			for _, to := range []int64{-1, 0, 20, 35, 50} {
				b := begun(t)
				v := made(kind, "x")
				b.put("a", v, 0)
				if from > 0 {
					b.expire("a", from, 0)
				}
				if to >= 0 {
					b.text("b", "other", 0)
				}
				if to > 0 {
					b.expire("b", to, 0)
				}
				b.version("a", 0)
				b.version("b", 0)
				b.want(b.rename("a", "b", 20), "P16.2: Rename(a, b)")
				at, ok := b.s.Expiry("b", 20)
				b.want(b.s.Get("a", 20) == nil && b.s.Get("b", 20) == v && at == from && ok == (from > 0), "P16.2: Rename of a key until %d to one until %d: until %d, %t", from, to, at, ok)
				b.want(b.s.Len(20) == 1 && b.s.Held() == 1, "P16.2: Rename: %d held", b.s.Held())
				for _, now := range []int64{20, 29, 30, 35, 40, 50} {
					b.all(now, "a", "b")
				}
				b.want(b.s.Len(50) == 1 == (from == 0), "P16.2: Rename of a key until %d", from)
			}
		}
	}
}

// P16.2: Rename of a key to itself is nothing but a change.
func TestRenameItself(t *testing.T) {
	for _, until := range []int64{0, 9} {
		b := begun(t)
		v := made(api.List, "x")
		b.put("a", v, 0)
		if until > 0 {
			b.expire("a", until, 0)
		}
		for now := range int64(10) {
			was := b.version("a", now)
			there := b.rename("a", "a", now)
			at, ok := b.s.Expiry("a", now)
			b.want(there == (until == 0 || now < until) && ok == (there && until > 0) && (at == until && ok || at == 0 && !ok), "P16.2: Rename(a, a, %d) until %d: %t, %d, %t", now, until, there, at, ok)
			b.want((b.s.Get("a", now) == v) == there && (b.s.Version("a", now) > was) == there, "P16.2: Rename(a, a, %d) until %d", now, until)
			b.all(now, "a")
		}
	}
}

// P16.2: Rename and Copy to keys of 0, 1 and 4096 bytes, there or not; to one of 4097 Rename tells false and Copy refuses, and nothing is changed.
func TestLongTo(t *testing.T) {
	for _, from := range []string{"a", "", longest} {
		for _, to := range []string{"", "b", longest[1:], longest, tooLong, tooLong + "k"} {
			for _, there := range []bool{false, true} {
				if from == to || there && len(to) > api.MaxKey {
					continue
				}
				b := begun(t)
				b.timed(from, 9, 0)
				if there {
					b.text(to, "there", 0)
				}
				ok, why := b.copy(from, to, 1)
				b.want(ok == (!there && len(to) <= api.MaxKey) && (why == api.ErrLong) == (len(to) > api.MaxKey), "P16.2: Copy to %d bytes: %t, %v", len(to), ok, why)
				b.all(1, from, to)
				b.delete(to, 1)
				if there {
					b.text(to, "there", 1)
				}
				b.want(b.rename(from, to, 2) == (len(to) <= api.MaxKey), "P16.2: Rename to %d bytes", len(to))
				b.all(2, from, to)
				b.all(9, from, to)
			}
		}
	}
}

// P16.2, R3: Copy refuses a long key only where nothing else keeps it from copying; a false or refused one changes nothing.
func TestCopyOrder(t *testing.T) {
	b := begun(t)
	b.timed("a", 9, 0)
	b.text("b", "x", 0)
	b.timed("due", 1, 0)
	for now := range int64(9) {
		for _, from := range []string{"a", "b", "none", "due", tooLong} {
			for _, to := range []string{"a", "b", tooLong} {
				want := api.OK
				if to == tooLong && (from == "a" || from == "b" || from == "due" && now < 1) {
					want = api.ErrLong
				}
				if ok, why := b.copy(from, to, now); ok || why != want {
					t.Errorf("P16.2: Copy(%.9q, %.9q, %d): %t, %v, want %v", from, to, now, ok, why, want)
				}
				b.all(now, "a", "b", "none", "due", tooLong)
			}
		}
	}
	if ok, why := b.copy("a", tooLong, 9); ok || why != api.OK {
		t.Errorf("P16.2: Copy of a key whose time has come to a long one: %t, %v", ok, why)
	}
}

// P16.2: Copy to a key that is not there, or whose time has come: it has a value by itself, and from's expiry.
func TestCopy(t *testing.T) {
	for _, kind := range kinds {
		for _, from := range []int64{0, 30} {
			for _, to := range []int64{-1, 10, 20} {
				b := begun(t)
				v := made(kind, "x", "y")
				b.put("a", v, 0)
				if from > 0 {
					b.expire("a", from, 0)
				}
				if to > 0 {
					b.timed("b", to, 0)
				}
				was := b.version("a", 0)
				b.version("b", 0)
				ok, why := b.copy("a", "b", 20)
				b.want(ok && why == api.OK, "P16.2: Copy(a, b): %t, %v", ok, why)
				w := b.s.Get("b", 20)
				at, timed := b.s.Expiry("b", 20)
				b.want(b.s.Get("a", 20) == v && w != nil && w != v && value.Same(v, w) && at == from && timed == (from > 0), "P16.2: Copy of a %s until %d: until %d, %t", v.Type(), from, at, timed)
				b.want(b.version("a", 20) == was, "P16.3: Copy changes from")
				add(v, "z")
				b.want(value.Same(w, made(kind, "x", "y")), "P16.2: what is done to a %s is seen in its copy", v.Type())
				add(w, "w")
				b.want(value.Same(v, made(kind, "x", "y", "z")), "P16.2: what is done to a copy of a %s is seen in the first", v.Type())
				b.all(20, "a", "b")
				b.persist("b", 21)
				b.all(30, "a", "b")
				b.want((b.s.Get("a", 30) != nil) == (from == 0) && b.s.Get("b", 30) == w, "P16.2: Copy of a %s: one expiry for two", v.Type())
				b.delete("a", 30)
				b.all(30, "a", "b")
			}
		}
	}
}

// P16.2: a copy keeps its own expiry, whatever becomes of the first one's.
func TestCopiesExpiry(t *testing.T) {
	b := begun(t)
	b.timed("a", 9, 0)
	b.copy("a", "b", 0)
	b.copy("b", "c", 0)
	b.copy("a", "d", 0)
	b.expire("a", 20, 0)
	b.expire("b", 5, 0)
	b.persist("c", 0)
	for now := range int64(22) {
		b.all(now, "a", "b", "c", "d")
	}
	b.want(b.s.Len(22) == 1 && b.s.Get("c", 22) != nil, "P16.2: %q are left", b.s.Keys(22))
}

// P16.2: behind Flush nothing is there, of one key and of many, and all can come again.
func TestFlush(t *testing.T) {
	for _, n := range []int{0, 1, 2, 112, 113, 1000} {
		b := begun(t)
		for i, k := range names(n) {
			b.text(k, k, 0)
			if i%3 == 0 {
				b.expire(k, int64(5+i%5), 0)
			}
		}
		for range 2 {
			b.flush()
			b.want(b.s.Held() == 0 && b.s.Len(0) == 0 && len(b.s.Keys(0)) == 0, "P16.2: Flush: %d held", b.s.Held())
			b.want(b.s.Cycle(9, 0) == 0, "P16.4: Cycle behind a Flush")
			b.all(0, append(names(n+1), "none")...)
		}
		for i, k := range names(n) {
			b.text(k, "again", 1)
			if i%4 == 0 {
				b.expire(k, 50, 1)
			}
		}
		for _, now := range []int64{1, 5, 9, 10, 50} {
			b.all(now, names(n+1)...)
		}
		b.flush()
		b.all(51, names(n+1)...)
	}
}
