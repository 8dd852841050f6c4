package cursor_test

import (
	"math"
	"math/bits"
	"math/rand"
	"slices"
	"testing"

	"tallboy/api"
	"tallboy/cursor"
	"tallboy/hash"
)

const ones = math.MaxUint64

// depths are each depth that there is, and what lies below and above them up to the ends; those that are 0 to 16 in fewer bits are among them.
var depths = []int{
	math.MinInt, math.MinInt + 1, math.MinInt + 5, math.MinInt32, -1 << 32, -256, -255, -64, -17, -16, -12, -2, -1,
	0, 1, 2, 3, 4, 5, 6, 7, 8, 9, 10, 11, 12, 13, 14, 15, 16,
	17, 18, 31, 32, 63, 64, 65, 255, 256, 257, 1 << 16, math.MaxInt32, 1 << 32, 1<<32 + 3, 1 << 62, math.MaxInt - 1, math.MaxInt,
}

// held is the depth that counts.
func held(d int) int {
	switch {
	case d < 0:
		return 0
	case d > 16:
		return 16
	}
	return d
}

// rank is the place of the d lowest bits of c in the order, worked out elsewhere.
func rank(c uint64, d int) uint64 {
	return bits.Reverse64(c) >> (64 - d)
}

// at is the cursor of that place.
func at(place uint64, d int) uint64 {
	return bits.Reverse64(place << (64 - d))
}

// last is the cursor behind which 0 comes: all bits of the depth.
func last(d int) uint64 {
	return 1<<d - 1
}

// numbers are the ends, each single bit and its opposite, rows of low ones, and numbers of chance of every size.
func numbers() []uint64 {
	l := []uint64{0, 1, 2, 3, 5, 0x1234, 0xfffe, 0xffff, 0x10000, 0x1ffff, math.MaxInt64, ones - 1, ones}
	for shift := range 64 {
		l = append(l, 1<<shift, ones^1<<shift, 1<<shift-1, ones<<shift)
	}
	r := rand.New(rand.NewSource(9))
	for range 200 {
		l = append(l, r.Uint64()>>r.Intn(64))
	}
	return l
}

// above are bits that stand above the lowest d of a number.
func above(d int) []uint64 {
	return []uint64{1 << d, 1 << 16, 1 << 17, 1 << 32, 1 << 63, ones << d, 0x5555555555555555 << d}
}

func wantNext(t *testing.T, c uint64, d int, want uint64) {
	t.Helper()
	if got := cursor.Next(c, d); got != want {
		t.Fatalf("P9.1: Next(%#x, %d): %#x, want %#x", c, d, got, want)
	}
}

func wantBucket(t *testing.T, c uint64, d int, want uint64) {
	t.Helper()
	if got := cursor.Bucket(c, d); got != want {
		t.Fatalf("P9.1: Bucket(%#x, %d): %#x, want %#x", c, d, got, want)
	}
}

func wantAll(t *testing.T, d int, want []uint64) {
	t.Helper()
	if got := cursor.All(d); !slices.Equal(got, want) {
		t.Fatalf("P9.1: All(%d): %.8v of %d, want %.8v of %d", d, got, len(got), want, len(want))
	}
}

func wantSeen(t *testing.T, c, h uint64, d int, want bool) {
	t.Helper()
	if got := cursor.Seen(c, h, d); got != want {
		t.Fatalf("P9.1: Seen(%#x, %#x, %d): %t", c, h, d, got)
	}
}

// P9.1: the chapter's run and examples.
func TestRuns(t *testing.T) {
	wantAll(t, 2, []uint64{0, 2, 1, 3})
	wantNext(t, 3, 2, 0)
	wantNext(t, 0, 0, 0)
}

// P9.1: Next, by numbers that are written out.
func TestNext(t *testing.T) {
	for _, c := range []struct {
		c    uint64
		d    int
		want uint64
	}{
		{0, 1, 1}, {1, 1, 0},
		{0, 2, 2}, {2, 2, 1}, {1, 2, 3},
		{0, 3, 4}, {4, 3, 2}, {2, 3, 6}, {6, 3, 1}, {1, 3, 5}, {5, 3, 3}, {3, 3, 7}, {7, 3, 0},
		{0, 12, 0x800}, {0x800, 12, 0x400}, {0xffe, 12, 1}, {0x7ff, 12, 0xfff}, {0xfff, 12, 0},
		{0, 13, 0x1000}, {0xfff, 13, 0x1fff}, {0x1fff, 13, 0},
		{0, 16, 0x8000}, {0x8000, 16, 0x4000}, {0xfffe, 16, 1}, {0x7fff, 16, 0xffff}, {0xffff, 16, 0},
		{0, 17, 0x8000}, {0xffff, 17, 0}, {0x10000, 17, 0x8000}, {0x1ffff, 17, 0},
		{0, math.MaxInt, 0x8000}, {0xffff, math.MaxInt, 0}, {ones, math.MaxInt, 0},
		{6, 2, 1}, {4, 2, 2}, {0xff, 3, 0}, {0xf0, 3, 4}, // bits above the depth's
		{1, 0, 0}, {ones, 0, 0}, {0, -1, 0}, {99, -1, 0}, {ones, math.MinInt, 0},
	} {
		wantNext(t, c.c, c.d, c.want)
	}
}

// P9.1: Next of every cursor of every depth, and of 0 behind the last one.
func TestNextOfEveryCursor(t *testing.T) {
	for d := range api.MaxDepth + 1 {
		for place := range uint64(1) << d {
			want := at(place+1, d)
			if place+1 == 1<<d {
				want = 0
			}
			wantNext(t, at(place, d), d, want)
		}
		wantNext(t, last(d), d, 0)
	}
}

// P9.1: from 0 on, Next comes to each bucket once, and to 0 again not before that.
func TestNextGoesRound(t *testing.T) {
	for d := range api.MaxDepth + 1 {
		met := make([]int, 1<<d)
		c := uint64(0)
		for range met {
			met[cursor.Bucket(c, d)]++
			c = cursor.Next(c, d)
		}
		if c != 0 || slices.Min(met) != 1 || slices.Max(met) != 1 {
			t.Fatalf("P9.1: Next of depth %d: at %#x after %d steps, a bucket met %d to %d times", d, c, len(met), slices.Min(met), slices.Max(met))
		}
	}
}

// P9.1: bits above the depth's make no difference to Next, and none is told.
func TestNextHighBits(t *testing.T) {
	for _, d := range depths {
		for _, c := range numbers() {
			n := held(d)
			want := at((rank(c, n)+1)&last(n), n)
			wantNext(t, c, d, want)
			for _, high := range above(n) {
				wantNext(t, c&last(n)|high, d, want)
			}
		}
	}
}

// P9.1: Bucket, by numbers that are written out.
func TestBucket(t *testing.T) {
	for _, c := range []struct {
		c    uint64
		d    int
		want uint64
	}{
		{0, 0, 0}, {ones, 0, 0}, {7, -1, 0}, {ones, math.MinInt, 0},
		{0, 1, 0}, {1, 1, 1}, {2, 1, 0}, {3, 1, 1}, {ones, 1, 1},
		{6, 2, 2}, {0xfedcba9876543210, 8, 0x10},
		{ones, 12, 0xfff}, {0x1000, 12, 0}, {ones, 13, 0x1fff}, {0x1000, 13, 0x1000},
		{ones, 16, 0xffff}, {0x18000, 16, 0x8000}, {0x10000, 16, 0},
		{ones, 17, 0xffff}, {0x10000, 17, 0}, {0xfffff, 99, 0xffff}, {ones, math.MaxInt, 0xffff},
	} {
		wantBucket(t, c.c, c.d, c.want)
	}
}

// P9.1: Bucket is hash.Low, of every depth.
func TestBucketEverywhere(t *testing.T) {
	for _, d := range depths {
		for _, c := range numbers() {
			wantBucket(t, c, d, c%(1<<held(d)))
			wantBucket(t, c, d, hash.Low(c, d))
		}
	}
}

// P9.1: All, written out.
func TestAll(t *testing.T) {
	wantAll(t, 0, []uint64{0})
	wantAll(t, 1, []uint64{0, 1})
	wantAll(t, 3, []uint64{0, 4, 2, 6, 1, 5, 3, 7})
	wantAll(t, 4, []uint64{0, 8, 4, 12, 2, 10, 6, 14, 1, 9, 5, 13, 3, 11, 7, 15})
}

// P9.1: All of each depth to 12: 2^d from 0 on, each the Next of the one ahead of it, each bucket once, and 0 behind the last one.
func TestAllOfEachDepth(t *testing.T) {
	for d := range 13 {
		l := cursor.All(d)
		if len(l) != 1<<d || l[0] != 0 || l[len(l)-1] != last(d) {
			t.Fatalf("P9.1: All(%d): %d cursors", d, len(l))
		}
		met := make([]int, 1<<d)
		for i, c := range l {
			if c != at(uint64(i), d) || i > 0 && c != cursor.Next(l[i-1], d) {
				t.Fatalf("P9.1: All(%d): %#x at %d", d, c, i)
			}
			met[cursor.Bucket(c, d)]++
		}
		if slices.Min(met) != 1 || slices.Max(met) != 1 {
			t.Fatalf("P9.1: All(%d): a bucket %d to %d times", d, slices.Min(met), slices.Max(met))
		}
		wantNext(t, l[len(l)-1], d, 0)
	}
}

// P9.1: All below 0 is as of 0, and above 12 there are none.
func TestAllBeyond(t *testing.T) {
	for _, d := range depths {
		switch {
		case d < 0:
			wantAll(t, d, []uint64{0})
		case d > 12:
			wantAll(t, d, nil)
		}
	}
}

// P9.1, R2: what All told is the caller's: turning it, and its spare room, turns no other answer.
func TestAllByItself(t *testing.T) {
	for _, d := range []int{-1, 0, 1, 2, 3, 5, 12, 13, 17} {
		first, second := cursor.All(d), cursor.All(d)
		want := slices.Clone(first)
		whole := first[:cap(first)]
		for i := range whole {
			whole[i] = ones
		}
		if !slices.Equal(second, want) {
			t.Fatalf("R2: All(%d), told ahead, was turned", d)
		}
		wantAll(t, d, want)
	}
}

// P9.1: Seen, written out: the order of depth 2 is 0 2 1 3.
func TestSeen(t *testing.T) {
	for _, c := range []struct {
		c, h uint64
		d    int
		want bool
	}{
		{2, 0, 2, true}, {2, 2, 2, false}, {2, 1, 2, false}, {2, 3, 2, false},
		{1, 0, 2, true}, {1, 2, 2, true}, {1, 1, 2, false}, {1, 3, 2, false},
		{3, 0, 2, true}, {3, 2, 2, true}, {3, 1, 2, true}, {3, 3, 2, false},
		{1, 0, 1, true}, {1, 2, 1, true}, {1, 1, 1, false}, {0, 1, 1, false},
		{1, 0x800, 12, true}, {0x800, 1, 12, false}, {0x800, 0, 12, true}, {0xfff, 0x7ff, 12, true}, {0xfff, 0xfff, 12, false},
		{0x1000, 0, 12, false}, {0x1000, 0, 13, true}, {1, 0x1000, 13, true},
		{0x8000, 0, 16, true}, {0xffff, 0x7fff, 16, true}, {0x10000, 0, 16, false},
		{0x10000, 0, 17, false}, {0x10000, 0, 20, false}, {0x8000, 0, 17, true}, {0x8000, 0x10000, 17, true}, {0x8000, 0, math.MaxInt, true}, {ones, 0xffff, math.MaxInt, false},
		{ones, 0, 0, false}, {ones, 0, -1, false}, {ones, 0, math.MinInt, false}, {1, 0, 0, false},
		{ones, ones - 1, 16, true}, {ones, ones, 16, false}, {1, ones, 1, false}, {5, 0xfffffffffffffff8, 3, true},
	} {
		wantSeen(t, c.c, c.h, c.d, c.want)
	}
}

// P9.1: Seen of every bucket of small depths against every cursor: is it told ahead of the cursor?
func TestSeenOfEveryBucket(t *testing.T) {
	for d := range 8 {
		order := cursor.All(d)
		for i, c := range order {
			for j, h := range order {
				wantSeen(t, c, h, d, j < i)
				for _, high := range above(d) {
					wantSeen(t, c|high, h, d, j < i)
					wantSeen(t, c, h|high, d, j < i)
				}
			}
		}
	}
}

// P9.1: Seen of every depth: with c 0 and of c's own bucket false, else as the places are; bits above the depth's make no difference.
func TestSeenEverywhere(t *testing.T) {
	r := rand.New(rand.NewSource(90))
	l := numbers()
	for _, d := range depths {
		n := held(d)
		for _, c := range l {
			wantSeen(t, 0, c, d, false)
			wantSeen(t, c, c, d, false)
			h := l[r.Intn(len(l))]
			want := rank(h, n) < rank(c, n)
			wantSeen(t, c, h, d, want)
			for _, high := range above(n) {
				wantSeen(t, high, h, d, false)
				wantSeen(t, c, c&last(n)|high, d, false)
				wantSeen(t, c&last(n)|high, h, d, want)
				wantSeen(t, c, h&last(n)|high, d, want)
			}
		}
	}
}

// wantStill holds that what was seen at a depth is seen at a greater one.
func wantStill(t *testing.T, c, h uint64, small, great int) {
	t.Helper()
	if cursor.Seen(c, h, small) && !cursor.Seen(c, h, great) {
		t.Fatalf("P9.2: Seen(%#x, %#x) of depth %d, but not of %d", c, h, small, great)
	}
}

// P9.2: of small depths, every cursor and every hash of a greater depth.
func TestSeenStaysOfSmallDepths(t *testing.T) {
	for great := range 8 {
		for small := range great + 1 {
			for c := range uint64(1) << great {
				for h := range uint64(1) << great {
					wantStill(t, c, h, small, great)
				}
			}
		}
	}
}

// P9.2: of all depths, those beyond the ends too.
func TestSeenStays(t *testing.T) {
	r := rand.New(rand.NewSource(92))
	l := numbers()
	for i, small := range depths {
		for _, great := range depths[i:] {
			for range 200 {
				c, h := l[r.Intn(len(l))], l[r.Intn(len(l))]
				wantStill(t, c, h, small, great)
				wantStill(t, c&last(held(small)), h, small, great)
				wantStill(t, c&last(held(small)), r.Uint64(), small, great)
			}
		}
	}
}

// P9.2: a scan whose depth grows on the way tells each hash once: the buckets that it went through stay ahead of its cursor, and no others come there.
func TestScanWhileDepthGrows(t *testing.T) {
	const great = 6
	for small := range great + 1 {
		for stop := range 1 << small {
			told := make([]int, 1<<great)
			c := uint64(0)
			for range stop {
				tell(told, c, small)
				c = cursor.Next(c, small)
			}
			for range told {
				tell(told, c, great)
				if c = cursor.Next(c, great); c == 0 {
					break
				}
			}
			if slices.Min(told) < 1 || slices.Max(told) > 1 {
				t.Fatalf("P9.2: depth %d, then %d after %d buckets: a hash told %d to %d times", small, great, stop, slices.Min(told), slices.Max(told))
			}
		}
	}
}

// tell counts each hash of the bucket at which c stands.
func tell(told []int, c uint64, d int) {
	for h := range told {
		if hash.Low(uint64(h), d) == cursor.Bucket(c, d) {
			told[h]++
		}
	}
}

// R4: an answer hangs on what is given alone, whatever was asked ahead of it.
func TestAnswersAgain(t *testing.T) {
	for _, d := range depths {
		for _, c := range numbers() {
			next, bucket, seen := cursor.Next(c, d), cursor.Bucket(c, d), cursor.Seen(c, ^c, d)
			cursor.Next(next, d+1)
			wantNext(t, c, d, next)
			wantBucket(t, c, d, bucket)
			wantSeen(t, c, ^c, d, seen)
		}
	}
}
