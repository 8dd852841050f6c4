package space_test

import (
	"fmt"
	"math/rand"
	"slices"
	"testing"

	"tallboy/api"
	"tallboy/space"
	"tallboy/value"
)

// some is a value of any Kind, at times nil or Empty.
func some(r *rand.Rand) *value.Value {
	if r.Intn(12) == 0 {
		return nil
	}
	v := made(kinds[r.Intn(4)])
	for n := range r.Intn(6) {
		add(v, fmt.Sprint("t", n))
	}
	return v
}

// play does one thing by chance.
func play(b *both, r *rand.Rand, keys []string, now int64) {
	b.Helper()
	k, o := keys[r.Intn(len(keys))], keys[r.Intn(len(keys))]
	switch r.Intn(18) {
	case 0, 1, 2:
		b.put(k, some(r), now)
	case 3:
		b.delete(k, now)
	case 4:
		if v := b.get(k, now); v != nil {
			drop(v, fmt.Sprint("t", r.Intn(6)))
			b.touch(k, now)
		}
	case 5:
		b.touch(k, now)
	case 6, 7, 8:
		b.expire(k, now+int64(r.Intn(30))-3, now)
	case 9:
		b.persist(k, now)
	case 10, 11:
		b.rename(k, o, now)
	case 12:
		b.copy(k, o, now)
	case 13:
		b.cycle(r.Intn(4), now)
	case 14:
		b.version(k, now)
		b.version(o, now)
	case 15:
		b.get(k, now)
		b.expiry(o, now)
	case 16:
		b.pick(r.Uint64(), now)
		b.scan(r.Uint64(), r.Intn(9), now)
	case 17:
		if r.Intn(200) == 0 {
			b.flush()
		}
		b.len(now)
	}
}

// P16.1 to P16.4: plays by chance among few keys and many, in which time goes on slowly or fast.
func TestPlays(t *testing.T) {
	for seed := range int64(12) {
		for _, n := range []int{1, 2, 5, 40, 400} {
			b := empty(t, api.Config{Seed: uint64(seed)})
			r := rand.New(rand.NewSource(seed))
			keys := append(names(n-1), "")
			now := int64(0)
			for step := range 1500 {
				play(b, r, keys, now)
				if r.Intn(3) == 0 {
					now += int64(r.Intn(1 + int(seed)))
				}
				if step%(5+n) == 0 {
					b.all(now, keys...)
				}
			}
		}
	}
}

// P16.1 to P16.4: everything is asked for behind each step.
func TestPlaysWithLooks(t *testing.T) {
	for seed := range int64(8) {
		b := empty(t, api.Config{Seed: uint64(seed)})
		r := rand.New(rand.NewSource(100 + seed))
		keys := append(names(7), longest, tooLong)
		for step := range int64(1200) {
			play(b, r, keys, step/2)
			b.all(step/2, keys...)
		}
	}
}

// answer does one thing by chance to a space, and tells what was answered, orders and cursors too.
func answer(s *space.Space, r *rand.Rand, keys []string, now int64) string {
	k, o, n := keys[r.Intn(len(keys))], keys[r.Intn(len(keys))], r.Uint64()
	v := some(r)
	switch r.Intn(16) {
	case 0, 1, 2:
		return fmt.Sprint("Put ", s.Put(k, v, now))
	case 3:
		return fmt.Sprint("Delete ", s.Delete(k, now))
	case 4:
		s.Touch(k, now)
		return "Touch"
	case 5, 6:
		return fmt.Sprint("Expire ", s.Expire(k, now+int64(n%40)-2, now))
	case 7:
		return fmt.Sprint("Persist ", s.Persist(k, now))
	case 8:
		return fmt.Sprint("Rename ", s.Rename(k, o, now))
	case 9:
		ok, why := s.Copy(k, o, now)
		return fmt.Sprint("Copy ", ok, why)
	case 10:
		return fmt.Sprint("Get ", s.Get(k, now).Type(), s.Get(k, now).Len())
	case 11:
		at, ok := s.Expiry(k, now)
		return fmt.Sprint("Expiry ", at, ok)
	case 12:
		return fmt.Sprint("Len, Version ", s.Len(now), s.Version(k, now), s.Version(o, now))
	case 13:
		p, ok := s.Pick(n, now)
		return fmt.Sprint("Pick ", p, ok)
	case 14:
		l, next := s.Scan(n%64, int(n>>32)%20, now)
		return fmt.Sprint("Scan ", l, next)
	}
	if n%97 == 0 {
		s.Flush()
	}
	return fmt.Sprintf("Keys %q", s.Keys(now))
}

// P16.5: of two spaces to which the same is done, one with Cycles between, each answer is the same, orders, cursors and picks too.
func TestCycleIsNotSeen(t *testing.T) {
	for seed := range int64(10) {
		for _, n := range []int{3, 30, 600} {
			c := api.Config{Seed: uint64(seed)}
			with, without := space.New(c), space.New(c)
			r, same := rand.New(rand.NewSource(seed)), rand.New(rand.NewSource(seed))
			cycles := rand.New(rand.NewSource(seed + 50))
			keys := names(n)
			now := int64(0)
			for range 3000 {
				for range cycles.Intn(3) {
					with.Cycle(cycles.Intn(10)-1, now)
				}
				a, b := answer(with, r, keys, now), answer(without, same, keys, now)
				if a != b {
					t.Fatalf("P16.5: with Cycles %s, without %s", a, b)
				}
				now += int64(cycles.Intn(3) / 2)
			}
		}
	}
}

// P16.5: keys whose time has come and that nobody asked for make no difference to those that are put then: to their scans and picks neither.
func TestLeftOversAreNotSeen(t *testing.T) {
	for _, first := range []int{1, 100, 112, 113, 500} {
		for _, n := range []int{1, 12, 113, 400} {
			with, without := space.New(api.Config{Seed: 6}), space.New(api.Config{Seed: 6})
			for _, s := range []*space.Space{with, without} {
				for _, k := range names(first) {
					s.Put("left"+k, value.OfText("x"), 0)
					s.Expire("left"+k, 5, 0)
				}
			}
			for with.Cycle(7, 5) > 0 {
			}
			for _, k := range names(n) {
				with.Put(k, value.OfText("x"), 5)
				without.Put(k, value.OfText("x"), 5)
			}
			for c := range uint64(20) {
				l, next := with.Scan(c, 9, 5)
				m, end := without.Scan(c, 9, 5)
				k, _ := with.Pick(c, 5)
				o, _ := without.Pick(c, 5)
				if !slices.Equal(l, m) || next != end || k != o {
					t.Errorf("P16.5: Scan(%d): %d keys, %d, without Cycles %d, %d", c, len(l), next, len(m), end)
				}
			}
			if !slices.Equal(with.Keys(5), without.Keys(5)) {
				t.Error("P16.5: Keys")
			}
		}
	}
}
