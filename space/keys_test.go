package space_test

import (
	"math"
	"runtime"
	"slices"
	"testing"
	"weak"

	"tallboy/api"
	"tallboy/space"
	"tallboy/value"
)

// P16.1: the Config is told as it was given, whatever it has, and stays.
func TestConfig(t *testing.T) {
	for _, seed := range seeds {
		for _, n := range []int{math.MinInt, -1, 0, 5, 512, math.MaxInt} {
			c := api.Config{Seed: seed, Limits: api.Limits{Entries: n, Text: n / 3}}
			b := empty(t, c)
			b.want(b.s.Config() == c, "P16.1: Config: %+v, want %+v", b.s.Config(), c)
			for _, k := range names(200) {
				b.text(k, "x", 0)
			}
			b.flush()
			b.want(b.s.Config() == c, "P16.1: Config behind a Flush: %+v, want %+v", b.s.Config(), c)
		}
	}
}

// P16.1 to P16.4: a space without keys answers nothing to all.
func TestNothing(t *testing.T) {
	for _, now := range []int64{0, 1, 7, latest} {
		b := begun(t)
		for _, k := range append(odd(), tooLong) {
			if b.s.Get(k, now) != nil || b.s.Delete(k, now) || b.s.Expire(k, now+9, now) || b.s.Expire(k, 0, now) || b.s.Persist(k, now) || b.s.Rename(k, k, now) || b.s.Rename(k, "b", now) || b.s.Version(k, now) != 0 {
				t.Errorf("P16.1: %.20q of an empty space", k)
			}
			if at, ok := b.s.Expiry(k, now); at != 0 || ok {
				t.Errorf("P16.1: Expiry(%.20q): %d, %t", k, at, ok)
			}
			for _, to := range []string{k, "b", tooLong} {
				if ok, why := b.s.Copy(k, to, now); ok || why != api.OK {
					t.Errorf("P16.2: Copy(%.20q, %.20q): %t, %v", k, to, ok, why)
				}
			}
			b.s.Touch(k, now)
			b.all(now, k)
		}
		if b.s.Len(now) != 0 || len(b.s.Keys(now)) != 0 || b.s.Held() != 0 || b.s.Cycle(9, now) != 0 {
			t.Error("P16.2: an empty space has keys")
		}
		for _, c := range []uint64{0, 1, 1 << 63, math.MaxUint64} {
			if l, next := b.s.Scan(c, 5, now); len(l) != 0 || next != 0 {
				t.Errorf("P16.4: Scan(%d): %q, %d", c, l, next)
			}
		}
		b.flush()
		b.all(now, odd()...)
	}
}

// P16.1: keys are texts of any bytes, and only the same bytes are the same key.
func TestOddKeys(t *testing.T) {
	for _, seed := range seeds {
		b := empty(t, api.Config{Seed: seed})
		for n, k := range odd() {
			b.get(k, 0)
			b.text(k, k, 0)
			b.want(b.s.Len(0) == n+1 && b.s.Held() == n+1, "P16.2: Len: %d, Held: %d", b.s.Len(0), b.s.Held())
		}
		b.all(0, odd()...)
		for _, k := range odd() {
			b.want(b.get(k, 1).Text == k, "P16.1: Get(%.20q)", k)
			b.delete(k, 1)
			b.delete(k, 1)
			b.all(1, odd()...)
		}
	}
}

// P16.1: a key is its bytes, wherever they lie.
func TestKeysByBytes(t *testing.T) {
	b := begun(t)
	row := []byte("some key")
	b.text(string(row[5:]), "1", 0)
	b.expire(string(row[5:]), 9, 0)
	copy(row, "********")
	b.want(b.s.Get("key", 1) != nil && b.s.Get("***", 1) == nil, "R2: a key hangs on the bytes that it was made of")
	b.rename("key", string(row[:2]), 1)
	row[0] = '+'
	b.want(b.s.Get("**", 1) != nil && b.s.Get("+*", 1) == nil, "R2: a key hangs on the bytes that it was made of")
	b.all(9, "key", "**", "+*")
}

// P16.1: a key of 4096 bytes is put, one of 4097 is refused, whatever its value is, and nothing is changed.
func TestLongKeys(t *testing.T) {
	values := []*value.Value{nil, value.OfText(""), value.OfText("x"), made(api.List), made(api.List, "x"), made(api.Set), made(api.Hash, "f")}
	for _, v := range values {
		b := begun(t)
		b.timed("a", 5, 0)
		b.text(longest, "x", 0)
		for _, k := range []string{tooLong, tooLong + tooLong, "a" + longest} {
			b.want(b.s.Put(k, v, 0) == api.ErrLong, "P16.1: Put of %d bytes", len(k))
			b.all(0, k, longest, "a")
			b.want(b.s.Version(k, 0) == 0 && b.s.Held() == 2, "R3: Put of %d bytes is refused, and seen", len(k))
		}
		b.put(longest, v, 1)
		b.put("", v, 1)
		b.put("z", v, 1)
		b.all(1, longest, "", "z", "a")
		b.put(tooLong, v, 5)
		b.all(5, longest, "", "z", "a", tooLong)
	}
}

// P16.1: a key has the very value that it was given, of each Kind, one behind the other.
func TestKinds(t *testing.T) {
	for _, first := range kinds {
		for _, second := range kinds {
			b := begun(t)
			v, w := made(first, "x"), made(second, "y")
			b.put("a", v, 0)
			b.want(b.s.Get("a", 0) == v, "P16.1: Get of a %s", v.Type())
			b.expire("a", 9, 0)
			b.put("a", w, 1)
			b.want(b.s.Get("a", 1) == w && b.s.Len(1) == 1 && b.s.Held() == 1, "P16.1: Put of a %s over a %s", w.Type(), v.Type())
			b.expiry("a", 1)
			b.all(9, "a")
			b.want(b.s.Get("a", 9) == w, "P16.1: Put lets a key keep its expiry")
			b.delete("a", 9)
			b.all(9, "a")
		}
	}
}

// P16.1: an empty String is a value, with or without an expiry; nil and what has nothing of the other Kinds takes the key away.
func TestEmpty(t *testing.T) {
	nothings := []*value.Value{nil, made(api.Hash), made(api.Set), made(api.List)}
	for _, v := range []*value.Value{value.OfText(""), value.New(api.String, 0, api.Limits{})} {
		b := begun(t)
		b.put("a", v, 0)
		b.touch("a", 0)
		b.want(b.s.Get("a", 0) == v && b.s.Len(0) == 1, "P16.1: an empty String is a value")
		b.copy("a", "b", 0)
		b.rename("a", "c", 0)
		b.all(0, "a", "b", "c")
		b.want(b.s.Len(0) == 2, "P16.2: an empty String is a value")
	}
	for _, v := range nothings {
		b := begun(t)
		b.put("a", v, 0)
		b.all(0, "a")
		b.want(b.s.Held() == 0 && b.s.Version("a", 0) == 0, "P16.1: Put of nothing, where nothing is")
		b.text("a", "1", 0)
		b.text("b", "2", 0)
		b.put("a", v, 0)
		b.want(b.s.Get("a", 0) == nil && b.s.Len(0) == 1 && b.s.Held() == 1, "P16.1: Put of nothing over a key")
		b.all(0, "a", "b")
		b.timed("a", 7, 0)
		b.put("a", v, 3)
		b.text("a", "3", 3)
		b.all(7, "a", "b")
		b.want(b.s.Len(7) == 2, "P16.1: an expiry outlives its key")
		b.timed("a", 9, 7)
		b.version("a", 8)
		b.put("a", v, 9)
		b.all(9, "a", "b")
	}
}

// P16.1: what is done to a value is seen, behind Put by who put it, and behind Get.
func TestOwnValue(t *testing.T) {
	for _, kind := range kinds {
		b := begun(t)
		v := made(kind, "x")
		b.put("a", v, 0)
		was := b.version("a", 0)
		add(v, "y")
		b.want(value.Same(b.s.Get("a", 0), made(kind, "x", "y")), "P16.1: what is done to a %s behind Put is not seen", v.Type())
		add(b.s.Get("a", 0), "z")
		b.want(value.Same(v, made(kind, "x", "y", "z")) && b.s.Get("a", 0) == v, "P16.1: what is done to a %s behind Get is not seen", v.Type())
		b.want(b.version("a", 0) == was, "P16.3: a value that is changed is no change of its key")
		b.rename("a", "b", 0)
		add(v, "w")
		b.want(b.s.Get("b", 0) == v && value.Same(v, made(kind, "x", "y", "z", "w")), "P16.2: Rename lets another key have another %s", v.Type())
		b.put("b", b.s.Get("b", 1), 1)
		b.put("c", v, 1)
		b.want(b.s.Get("b", 1) == v && b.s.Get("c", 1) == v, "P16.1: one value under two keys")
		b.delete("b", 1)
		b.all(1, "a", "b", "c")
	}
}

// P16.1: a value that comes to be Empty takes its key away when it is touched.
func TestTouchOfEmpty(t *testing.T) {
	for _, kind := range collections {
		for _, timed := range []int64{0, 50} {
			b := begun(t)
			v := made(kind, "x", "y")
			b.put("a", v, 0)
			b.put("b", made(kind, "x"), 0)
			if timed > 0 {
				b.expire("a", timed, 0)
			}
			drop(b.get("a", 0), "x")
			b.touch("a", 1)
			b.want(b.s.Get("a", 1) == v, "P16.1: Touch of a %s of one", v.Type())
			b.expiry("a", 1)
			was := b.version("a", 1)
			drop(v, "y")
			b.want(b.version("a", 2) == was, "P16.3: a value alone changes its key")
			b.touch("a", 2)
			b.want(b.s.Get("a", 2) == nil && b.s.Len(2) == 1 && b.s.Held() == 1 && b.s.Version("a", 2) > was, "P16.1: Touch of an Empty %s", v.Type())
			b.all(2, "a", "b")
			was = b.version("a", 2)
			b.touch("a", 3)
			b.want(b.version("a", 3) == was, "P16.3: Touch of a key that is not there")
			add(v, "z")
			b.all(3, "a", "b")
			b.put("a", v, 3)
			b.all(50, "a", "b")
			b.want(b.s.Get("a", 50) == v, "P16.1: an expiry outlives its key")
		}
	}
}

// P16.1: Touch keeps the value and the expiry.
func TestTouch(t *testing.T) {
	b := begun(t)
	b.timed("a", 9, 0)
	b.text("b", "x", 0)
	for now := range int64(12) {
		b.touch("a", now)
		b.touch("b", now)
		b.touch("c", now)
		b.all(now, "a", "b", "c")
	}
	b.want(b.s.Get("a", 12) == nil && b.s.Get("b", 12) != nil && b.s.Version("c", 12) == 0, "P16.1: Touch")
}

// R2: lists that were told are nothing to the space, their spare room neither.
func TestListsByThemselves(t *testing.T) {
	for _, n := range []int{1, 3, 113, 500} {
		b := begun(t)
		for _, k := range names(n) {
			b.text(k, "x", 0)
		}
		b.timed("due", 3, 0)
		for now := range int64(6) {
			keys, scanned := b.keys(now), []string(nil)
			scanned, _ = b.scan(0, 1000, now)
			same := slices.Clone(keys)
			told := slices.Clone(scanned)
			spoil(keys)
			b.want(slices.Equal(told, scanned), "R2: Keys and Scan share their lists")
			spoil(scanned)
			b.want(slices.Equal(b.s.Keys(now), same), "R2, R4: Keys were told otherwise")
			again, _ := b.s.Scan(0, 1000, now)
			b.want(slices.Equal(again, told), "R2, R4: Scan told otherwise")
			b.all(now)
		}
	}
}

// spoil writes over a list, and over the room behind it.
func spoil(l []string) {
	l = l[:cap(l)]
	for i := range l {
		l[i] = "spoilt"
	}
}

// R4: two spaces to which the same is done answer the same, their orders too; so does one that is asked again.
func TestAnswersAgain(t *testing.T) {
	fill := func() *space.Space {
		s := space.New(api.Config{Seed: 9})
		for n, k := range names(700) {
			s.Put(k, value.OfText(k), 0)
			s.Expire(k, int64(1+n%9), 0)
		}
		return s
	}
	a, b := fill(), fill()
	for now := range int64(10) {
		if !slices.Equal(a.Keys(now), b.Keys(now)) || !slices.Equal(a.Keys(now), a.Keys(now)) {
			t.Errorf("R4: Keys(%d)", now)
		}
		for _, n := range picks {
			k, ok := a.Pick(n, now)
			o, is := b.Pick(n, now)
			if k != o || ok != is {
				t.Errorf("R4: Pick(%d, %d): %q, %q", n, now, k, o)
			}
			l, next := a.Scan(n, 5, now)
			m, other := b.Scan(n, 5, now)
			if !slices.Equal(l, m) || next != other {
				t.Errorf("R4: Scan(%d, 5, %d): %q, %q", n, now, l, m)
			}
		}
	}
}

// R2: a value whose key was taken away, or has another one now, is not kept.
func TestNotKept(t *testing.T) {
	goes := map[string]func(s *space.Space){
		"Delete":    func(s *space.Space) { s.Delete("a", 0) },
		"Put":       func(s *space.Space) { s.Put("a", value.OfText("y"), 0) },
		"Put nil":   func(s *space.Space) { s.Put("a", nil, 0) },
		"Expire":    func(s *space.Space) { s.Expire("a", 0, 0) },
		"Rename":    func(s *space.Space) { s.Put("b", value.OfText("y"), 0); s.Rename("b", "a", 0) },
		"Flush":     func(s *space.Space) { s.Flush() },
		"Get later": func(s *space.Space) { s.Get("a", 7) },
		"Cycle":     func(s *space.Space) { s.Cycle(9, 7) },
	}
	for name, leave := range goes {
		for others := range 3 {
			s := space.New(api.Config{})
			for _, k := range names(others) {
				s.Put(k, value.OfText("x"), 0)
				s.Expire(k, 9, 0)
			}
			v := value.OfText("x")
			w := weak.Make(v)
			s.Put("a", v, 0)
			s.Expire("a", 7, 0)
			v = nil
			leave(s)
			runtime.GC()
			if w.Value() != nil {
				t.Errorf("R2: a value is kept behind %s", name)
			}
			runtime.KeepAlive(s)
		}
	}
}
