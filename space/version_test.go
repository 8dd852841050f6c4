package space_test

import (
	"slices"
	"testing"

	"tallboy/api"
	"tallboy/space"
	"tallboy/value"
)

// watched are keys whose Versions are asked for behind each step.
var watched = []string{"a", "b", "c", ""}

// wantChanged asks which of the watched keys have a greater Version than ahead of a call; the others' must be the same.
func wantChanged(t *testing.T, s *space.Space, now int64, what string, do func(), keys ...string) {
	t.Helper()
	was := map[string]uint64{}
	for _, k := range watched {
		was[k] = s.Version(k, now)
	}
	do()
	for _, k := range watched {
		want := slices.Contains(keys, k)
		if v := s.Version(k, now); v < was[k] || v > was[k] != want {
			t.Errorf("P16.3: %s: Version(%q, %d): %d, was %d", what, k, now, v, was[k])
		}
	}
}

// P16.3: each call that changes keys, by itself: those and no others.
func TestChanges(t *testing.T) {
	s := space.New(api.Config{Seed: 2})
	text := value.OfText
	list := made(api.List, "x")
	steps := []struct {
		what string
		do   func()
		keys []string
	}{
		{"Put of a new key", func() { s.Put("a", text("1"), 0) }, []string{"a"}},
		{"Put of the same", func() { s.Put("a", text("1"), 0) }, []string{"a"}},
		{"Put of its own", func() { s.Put("a", s.Get("a", 0), 0) }, []string{"a"}},
		{"Put of the empty key", func() { s.Put("", text(""), 0) }, []string{""}},
		{"Put of nothing", func() { s.Put("b", nil, 0) }, nil},
		{"Put of an Empty one", func() { s.Put("b", made(api.Hash), 0) }, nil},
		{"Put of a long key", func() { s.Put(tooLong, text(""), 0) }, nil},
		{"Touch", func() { s.Touch("a", 0) }, []string{"a"}},
		{"Touch of none", func() { s.Touch("b", 0) }, nil},
		{"Expire", func() { s.Expire("a", 9, 0) }, []string{"a"}},
		{"Expire to the same", func() { s.Expire("a", 9, 0) }, []string{"a"}},
		{"Expire of none", func() { s.Expire("b", 9, 0) }, nil},
		{"Persist", func() { s.Persist("a", 0) }, []string{"a"}},
		{"Persist without an expiry", func() { s.Persist("a", 0) }, nil},
		{"Persist of none", func() { s.Persist("b", 0) }, nil},
		{"Copy", func() { s.Copy("a", "b", 0) }, []string{"b"}},
		{"Copy to one that is there", func() { s.Copy("a", "b", 0) }, nil},
		{"Copy to itself", func() { s.Copy("a", "a", 0) }, nil},
		{"Copy of none", func() { s.Copy("c", "d", 0) }, nil},
		{"Copy to a long key", func() { s.Copy("a", tooLong, 0) }, nil},
		{"Rename", func() { s.Rename("b", "c", 0) }, []string{"b", "c"}},
		{"Rename of none", func() { s.Rename("b", "a", 0) }, nil},
		{"Rename of none to itself", func() { s.Rename("b", "b", 0) }, nil},
		{"Rename to a long key", func() { s.Rename("a", tooLong, 0) }, nil},
		{"Rename to itself", func() { s.Rename("a", "a", 0) }, []string{"a"}},
		{"Rename to one that is there", func() { s.Rename("a", "c", 0) }, []string{"a", "c"}},
		{"Delete", func() { s.Delete("c", 0) }, []string{"c"}},
		{"Delete of none", func() { s.Delete("c", 0) }, nil},
		{"Put again", func() { s.Put("c", text("3"), 0) }, []string{"c"}},
		{"Expire at once", func() { s.Expire("c", 0, 0) }, []string{"c"}},
		{"Expire at once, of none", func() { s.Expire("c", 0, 0) }, nil},
		{"Expire below 0", func() { s.Put("b", text(""), 0); s.Expire("b", -1, 0) }, []string{"b"}},
		{"Put of a list", func() { s.Put("a", list, 0) }, []string{"a"}},
		{"a value alone", func() { list.List.Right("y"); s.Get("a", 0).List.Right("z") }, nil},
		{"an Empty value alone", func() { list.List.Trim(1, 0) }, nil},
		{"Touch of an Empty one", func() { s.Touch("a", 0) }, []string{"a"}},
		{"Touch again", func() { s.Touch("a", 0) }, nil},
		{"Put of some", func() { s.Put("a", text("1"), 0); s.Put("b", text("2"), 0) }, []string{"a", "b"}},
		{"Put of nothing over a key", func() { s.Put("b", nil, 0) }, []string{"b"}},
		{"Flush", func() { s.Flush() }, []string{"a", ""}},
		{"Flush of nothing", func() { s.Flush() }, nil},
		{"Put behind a Flush", func() { s.Put("a", text("1"), 0) }, []string{"a"}},
	}
	for _, step := range steps {
		wantChanged(t, s, 0, step.what, step.do, step.keys...)
		for look, ask := range looks() {
			wantChanged(t, s, 0, look+" behind "+step.what, func() { ask(s, "a", 0); ask(s, "b", 0) })
		}
	}
	for _, k := range []string{tooLong, "d", "a?", "never"} {
		if v := s.Version(k, 0); v != 0 {
			t.Errorf("P16.3: Version(%.9q), which was never there: %d", k, v)
		}
	}
}

// P16.3: the time of an expiry is one change, whoever asks first; nothing is changed ahead of it and behind it.
func TestVersionInTime(t *testing.T) {
	for first, ask := range looks() {
		for second, again := range looks() {
			s := space.New(api.Config{})
			s.Put("a", value.OfText("1"), 0)
			s.Put("b", value.OfText("2"), 0)
			s.Expire("a", 5, 0)
			a, b := s.Version("a", 0), s.Version("b", 0)
			ask(s, "a", 4)
			if s.Version("a", 4) != a {
				t.Errorf("P16.3: %s ahead of the time", first)
			}
			ask(s, "a", 5)
			again(s, "a", 5)
			is := s.Version("a", 5)
			if is <= a || s.Version("b", 5) != b {
				t.Errorf("P16.3: %s, %s at the time: %d, was %d", first, second, is, a)
			}
			ask(s, "a", 5)
			again(s, "a", 99)
			if s.Version("a", 99) != is || s.Version("b", 99) != b {
				t.Errorf("P16.3: %s, %s behind the time: %d, was %d", first, second, s.Version("a", 99), is)
			}
		}
	}
}

// P16.3: two whose times have come, and one Cycle of one: both have greater Versions, whichever was taken away.
func TestVersionsOfTwo(t *testing.T) {
	for _, n := range []int{-1, 0, 1, 2, 3} {
		s := space.New(api.Config{})
		for _, k := range []string{"a", "b"} {
			s.Put(k, value.OfText("1"), 0)
			s.Expire(k, 5, 0)
		}
		a, b := s.Version("a", 4), s.Version("b", 4)
		s.Cycle(n, 5)
		if s.Version("a", 5) <= a || s.Version("b", 5) <= b {
			t.Errorf("P16.3: behind Cycle(%d)", n)
		}
	}
}

// P16.3: a Flush changes each key once, those too whose time has come unasked; their times change nothing any more.
func TestVersionBehindFlush(t *testing.T) {
	for now := range int64(9) {
		s := space.New(api.Config{})
		s.Put("a", value.OfText("1"), 0)
		s.Put("b", value.OfText("2"), 0)
		s.Expire("a", 5, 0)
		s.Put("c", value.OfText("3"), 0)
		s.Delete("c", 0)
		a, b, c := s.Version("a", 0), s.Version("b", 0), s.Version("c", 0)
		s.Cycle(0, now)
		s.Flush()
		x, y := s.Version("a", now), s.Version("b", now)
		if x <= a || y <= b || s.Version("c", now) != c {
			t.Errorf("P16.3: Flush at %d: %d, %d, was %d, %d", now, x, y, a, b)
		}
		s.Flush()
		if s.Version("a", 99) != x || s.Version("b", 99) != y || s.Version("c", 99) != c || s.Version("d", 99) != 0 {
			t.Errorf("P16.3: behind a Flush at %d", now)
		}
	}
}

// P16.3: a key that comes to be there again, in any way, goes on from the Version that it had.
func TestVersionNeverFalls(t *testing.T) {
	b := begun(t)
	goes := []func(now int64){
		func(now int64) { b.delete("a", now) },
		func(now int64) { b.put("a", nil, now) },
		func(now int64) { b.expire("a", now, now) },
		func(now int64) { b.expire("a", now+1, now) },
		func(now int64) { b.rename("a", "b", now) },
		func(now int64) { b.flush() },
		func(now int64) { b.put("a", made(api.Set), now); b.cycle(9, now) },
	}
	comes := []func(now int64){
		func(now int64) { b.text("a", "x", now) },
		func(now int64) { b.text("c", "x", now); b.rename("c", "a", now) },
		func(now int64) { b.text("d", "x", now); b.copy("d", "a", now) },
		func(now int64) { b.timed("a", now+9, now) },
	}
	now := int64(0)
	last := b.version("a", 0)
	for _, come := range comes {
		for _, leave := range goes {
			for _, step := range []func(int64){come, leave} {
				step(now)
				is := b.version("a", now+1)
				b.want(is > last, "P16.3: Version(a): %d, was %d", is, last)
				last = is
				now++
				b.all(now, watched...)
				b.deleteOthers(now)
			}
		}
	}
}

// deleteOthers takes all keys away but a.
func (b *both) deleteOthers(now int64) {
	for _, k := range b.keys(now) {
		if k != "a" {
			b.delete(k, now)
		}
	}
}

// P16.3: many keys have Versions of their own, those that are there and those that are gone.
func TestManyVersions(t *testing.T) {
	for _, seed := range seeds {
		b := empty(t, api.Config{Seed: seed})
		keys := names(1200)
		for n, k := range keys {
			for range 1 + n%4 {
				b.text(k, "x", 0)
			}
			if n%3 > 0 {
				b.expire(k, int64(n%3*10), 0)
			}
		}
		for _, now := range []int64{0, 9, 10, 19, 20, 21} {
			for _, k := range keys {
				b.version(k, now)
			}
			b.touch("k600", now)
			b.delete("k603", now)
		}
		b.flush()
		for _, k := range keys {
			b.version(k, 21)
		}
	}
}
