package space_test

import (
	"math"
	"testing"

	"tallboy/api"
	"tallboy/space"
	"tallboy/value"
)

// half is a space of n keys without an expiry, and of as many that have one: n / 2 of them 5, the others 9.
func half(t *testing.T, n int) *both {
	b := begun(t)
	for i, k := range names(2 * n) {
		b.text(k, k, 0)
		switch i % 4 {
		case 1:
			b.expire(k, 5, 0)
		case 3:
			b.expire(k, 9, 0)
		}
	}
	return b
}

// P16.4: Cycle takes as many away as it may, of those whose time has come alone.
func TestCycle(t *testing.T) {
	for _, n := range []int{math.MinInt, -1000, -5, -1, 0, 1, 2, 7, 19, 20, 21, 39, 40, 79, 80, 81, 1000, math.MaxInt} {
		b := half(t, 40)
		b.want(b.s.Held() == 80, "P16.4: Held: %d", b.s.Held())
		b.want(b.s.Cycle(n, 0) == 0 && b.s.Cycle(n, 4) == 0 && b.s.Held() == 80, "P16.4: Cycle(%d) ahead of the time", n)
		got := b.cycle(n, 5)
		b.want(got <= 20 && (n < 80 || got == 20), "P16.4: Cycle(%d, 5): %d", n, got)
		b.want(b.s.Len(5) == 60, "P16.2: Len behind Cycle: %d", b.s.Len(5))
		b.all(5, names(80)...)
		got = b.cycle(n, 8)
		b.want(n < 60 || got == 0, "P16.4: Cycle(%d, 8): %d", n, got)
		b.cycle(n, 9)
		b.want(n < 80 || b.s.Held() == 40, "P16.4: Cycle(%d, 9): %d held", n, b.s.Held())
		b.cycle(80, 9)
		b.want(b.s.Held() == 40, "P16.4: Cycle(80, 9): %d held", b.s.Held())
		b.all(9, names(80)...)
	}
}

// P16.4: Cycle again and again until none is left: each goes once, and no more than are due go.
func TestCycleOnAndOn(t *testing.T) {
	for _, n := range []int{1, 2, 3, 7, 50, 100} {
		b := half(t, 100)
		for _, now := range []int64{0, 5, 9, latest} {
			taken := 0
			for range 300 {
				taken += b.cycle(n, now)
			}
			want := map[int64]int{5: 50, 9: 50}[now]
			b.want(taken <= want, "P16.4: Cycles of %d at %d: %d, want %d", n, now, taken, want)
			b.want(b.cycle(200, now) == want-taken, "P16.4: Cycles of %d at %d: %d, want %d", n, now, taken, want)
		}
		b.want(b.s.Held() == 100, "P16.4: Cycles of %d: %d held", n, b.s.Held())
		b.all(latest, names(200)...)
	}
}

// P16.4: Held has at least those that are there, whoever asks, and just those behind a Cycle of as many.
func TestHeld(t *testing.T) {
	for look, ask := range looks() {
		for now := range int64(11) {
			b := half(t, 20)
			ask(b.s, "k1", now)
			b.want(b.s.Held() >= 20 && b.s.Held() <= 40, "P16.4: Held behind %s: %d", look, b.s.Held())
			b.m.pass(now)
			b.want(b.s.Held() >= len(b.m.keys), "P16.4: Held behind %s at %d: %d", look, now, b.s.Held())
			b.cycle(b.s.Held(), now)
			b.want(b.s.Held() == len(b.m.keys), "P16.4: Held behind %s and Cycle at %d: %d", look, now, b.s.Held())
			b.all(now, names(40)...)
		}
	}
}

// P16.4: who asks for a key whose time has come takes it away.
func TestWhoAsksTakes(t *testing.T) {
	asks := map[string]func(s *space.Space){
		"Get":      func(s *space.Space) { s.Get("a", 5) },
		"Put":      func(s *space.Space) { s.Put("a", nil, 5) },
		"Delete":   func(s *space.Space) { s.Delete("a", 5) },
		"Touch":    func(s *space.Space) { s.Touch("a", 5) },
		"Expire":   func(s *space.Space) { s.Expire("a", 9, 5) },
		"Expiry":   func(s *space.Space) { s.Expiry("a", 5) },
		"Persist":  func(s *space.Space) { s.Persist("a", 5) },
		"Rename":   func(s *space.Space) { s.Rename("a", "b", 5) },
		"Renamed":  func(s *space.Space) { s.Rename("b", "a", 5); s.Delete("a", 5); s.Put("b", value.OfText("2"), 5) },
		"Copy":     func(s *space.Space) { s.Copy("a", "c", 5) },
		"Copied":   func(s *space.Space) { s.Copy("b", "a", 5); s.Delete("a", 5) },
		"Version":  func(s *space.Space) { s.Version("a", 5) },
		"Cycle":    func(s *space.Space) { s.Cycle(2, 5) },
		"Put anew": func(s *space.Space) { s.Put("a", value.OfText("1"), 5); s.Delete("a", 5) },
	}
	for name, ask := range asks {
		s := space.New(api.Config{})
		s.Put("a", value.OfText("1"), 0)
		s.Put("b", value.OfText("2"), 0)
		s.Expire("a", 5, 0)
		if s.Held() != 2 {
			t.Errorf("P16.4: Held: %d", s.Held())
		}
		ask(s)
		if s.Held() != 1 || s.Len(5) != 1 || s.Get("b", 5) == nil {
			t.Errorf("P16.4: %s leaves %d held", name, s.Held())
		}
	}
}
