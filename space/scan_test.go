package space_test

import (
	"fmt"
	"math"
	"math/rand"
	"slices"
	"testing"

	"tallboy/api"
	"tallboy/dict"
)

// counts are below 1, some, and above the most.
var counts = []int{math.MinInt, -1, 0, 1, 2, 10, 999, 1000, 1001, math.MaxInt}

// P16.4: a chain of Scans tells each key of a space that stays as it is once, and each Scan is dict's of those keys.
func TestScan(t *testing.T) {
	for _, n := range []int{0, 1, 2, 112, 113, 700} {
		for _, count := range counts {
			b := empty(t, api.Config{Seed: uint64(n)})
			b.text("flushed", "x", 0)
			b.flush()
			d := dict.New[int](uint64(n))
			for _, k := range names(n) {
				b.text(k, k, 0)
				d.Put(k, 0)
			}
			told := b.chain(count, func() int64 { return 0 })
			b.want(len(told) == n, "P16.4: Scans of %d told %d of %d", count, len(told), n)
			for k, times := range told {
				b.want(times == 1, "P16.4: Scans of %d told %s %d times", count, k, times)
			}
			for _, c := range []uint64{0, 1, 2, 5, 1 << 16, math.MaxUint64} {
				l, next := b.scan(c, count, 0)
				want, end := d.Scan(c, count)
				slices.Sort(l)
				slices.Sort(want)
				b.want(slices.Equal(l, want) && next == end, "P16.4: Scan(%d, %d): %q, %d, want %q, %d", c, count, l, next, want, end)
			}
		}
	}
}

// P16.4: Scans leave out those that are not there, however many of them are held; count is of those that are told.
func TestScanOfDue(t *testing.T) {
	for _, n := range []int{1, 5, 200, 900} {
		for _, count := range []int{1, 3, 50, 1000} {
			for _, left := range []int{0, 1, n / 3} {
				b := empty(t, api.Config{Seed: 4})
				for i, k := range names(n) {
					b.text(k, k, 0)
					if i >= left {
						b.expire(k, 5, 0)
					}
				}
				told := b.chain(count, func() int64 { return 5 })
				b.want(len(told) == left, "P16.4: Scans of %d told %d of %d", count, len(told), left)
				b.all(5, names(n)...)
			}
		}
	}
}

// P16.4: one Scan as the first that asks at a time, from each cursor.
func TestScanAsksFirst(t *testing.T) {
	for c := range uint64(16) {
		b := half(t, 400)
		b.scan(c, 10, 4)
		b.scan(c, 10, 5)
		b.scan(c, 1000, 9)
		b.all(9, names(800)...)
	}
}

// W2: keys that stay are told by each chain of Scans, whatever else is put, deleted, renamed and expires between.
func TestScanMissesNothing(t *testing.T) {
	for _, seed := range seeds {
		for _, count := range []int{-3, 1, 4, 40} {
			b := empty(t, api.Config{Seed: seed})
			stay := names(150)
			for n, k := range stay {
				b.text(k, "stays", 0)
				if n%2 == 0 {
					b.expire(k, latest, 0)
				}
			}
			for n := range 300 {
				b.timed(fmt.Sprint("goes", n), int64(1+n/2), 0)
			}
			r := rand.New(rand.NewSource(int64(seed) + int64(count)))
			for now := int64(0); now < 150; now += 30 {
				at := now
				told := b.chain(count, func() int64 {
					stir(b, r, at)
					at = min(at+int64(r.Intn(2)), now+29)
					return at
				})
				for _, k := range stay {
					b.want(told[k] > 0, "W2: Scans of %d missed %s", count, k)
				}
			}
			b.all(150, stay...)
		}
	}
}

// stir changes keys that need not stay.
func stir(b *both, r *rand.Rand, now int64) {
	for range r.Intn(12) {
		k, o := fmt.Sprint("new", r.Intn(900)), fmt.Sprint("goes", r.Intn(400))
		switch r.Intn(7) {
		case 0, 1, 2:
			b.text(k, "x", now)
		case 3:
			b.timed(k, now+int64(r.Intn(9)), now)
		case 4:
			b.delete(k, now)
		case 5:
			b.rename(o, k, now)
		case 6:
			b.cycle(r.Intn(9), now)
		}
	}
}

// P16.4: Pick tells a key that is there for each number, the same one for the same; none of an empty space, and of one whose keys' times have all come.
func TestPick(t *testing.T) {
	for _, n := range []int{0, 1, 2, 3, 112, 113, 1000} {
		for _, left := range []int{0, 1, n / 2, n} {
			b := empty(t, api.Config{Seed: 11})
			for i, k := range names(n) {
				b.text(k, k, 0)
				if i >= left {
					b.expire(k, 5, 0)
				}
			}
			numbers := append(slices.Clone(picks), uint64(n), uint64(max(n-1, 0)), uint64(left), uint64(left+1))
			for _, now := range []int64{0, 4, 5, 6} {
				for _, m := range numbers {
					k, ok := b.pick(m, now)
					again, still := b.pick(m, now)
					b.want(k == again && ok == still, "P16.4: Pick(%d, %d): %q, then %q", m, now, k, again)
				}
			}
		}
	}
}

// P16.4: one Pick as the first that asks at a time.
func TestPickAsksFirst(t *testing.T) {
	for n := range uint64(50) {
		b := half(t, 20)
		b.pick(n, 5)
		b.pick(math.MaxUint64-n, 9)
		b.all(9)
	}
	b := begun(t)
	b.timed("a", 5, 0)
	k, ok := b.s.Pick(0, 5)
	b.want(k == "" && !ok, "P16.4: Pick of a key whose time has come: %q, %t", k, ok)
}

// W3: seeds and limits make no difference, but to orders, cursors and what is picked.
func TestSeedsAndLimits(t *testing.T) {
	var first []string
	for _, seed := range seeds {
		for _, l := range []api.Limits{{}, {Entries: 5, Text: 5}, {Entries: -1, Text: math.MaxInt}} {
			told := playTold(empty(t, api.Config{Seed: seed, Limits: l}))
			if first == nil {
				first = told
			}
			if !slices.Equal(told, first) {
				t.Fatalf("W3: seed %d, %+v", seed, l)
			}
		}
	}
}

// playTold plays the same on any space, and tells what was answered, lists sorted.
func playTold(b *both) []string {
	var told []string
	r := rand.New(rand.NewSource(3))
	keys := names(200)
	for now := range int64(300) {
		for range 4 {
			k, o := keys[r.Intn(200)], keys[r.Intn(200)]
			switch r.Intn(6) {
			case 0, 1:
				b.text(k, o, now)
			case 2:
				told = append(told, fmt.Sprint(b.expire(k, now+int64(r.Intn(40)), now)))
			case 3:
				told = append(told, fmt.Sprint(b.rename(k, o, now)))
			case 4:
				told = append(told, fmt.Sprint(b.copy(k, o, now)))
			case 5:
				told = append(told, fmt.Sprint(b.delete(k, now)))
			}
			told = append(told, fmt.Sprint(b.version(k, now), b.version(o, now)))
		}
		told = append(told, fmt.Sprintf("%q", slices.Sorted(slices.Values(b.keys(now)))))
	}
	return told
}
