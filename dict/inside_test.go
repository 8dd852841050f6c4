package dict

import (
	"strconv"
	"strings"
	"testing"

	"tallboy/api"
	"tallboy/hash"
)

// wantShared is what the directory is made of: each leaf at all places that have its lowest bits, and at no other.
func wantShared(t *testing.T, d *Dict[int]) {
	t.Helper()
	if len(d.places) != 1<<d.Depth() {
		t.Fatalf("%d places of depth %d", len(d.places), d.Depth())
	}
	times := map[*leaf[int]]int{}
	for place, l := range d.places {
		if l != d.places[place%(1<<l.own)] {
			t.Fatalf("place %d of own depth %d: another leaf than at its lowest bits", place, l.own)
		}
		times[l]++
	}
	for l, n := range times {
		if n != 1<<(d.Depth()-l.own) {
			t.Fatalf("a leaf of own depth %d at %d places of depth %d", l.own, n, d.Depth())
		}
		if l.own < api.MaxDepth && len(l.tables) != 1 {
			t.Fatalf("own depth %d: %d tables", l.own, len(l.tables))
		}
	}
}

// Ways: tables are shared by several places of the directory.
func TestShared(t *testing.T) {
	for _, seed := range []uint64{0, 1, 1<<64 - 1} {
		d := New[int](seed)
		wantShared(t, d)
		for n := range 3000 {
			d.Put(strconv.Itoa(n), n)
			if n%10 == 0 {
				wantShared(t, d)
			}
		}
		for n, crowd := 0, 0; crowd < api.Room+1; n++ {
			if k := "crowd" + strconv.Itoa(n); hash.Low(hash.Of(seed, k), 11) == 0x2a5 {
				d.Put(k, n)
				crowd++
				wantShared(t, d)
			}
		}
	}
}

// Tables behind a full one come as they are needed, and go when they have nothing; one is always left.
func TestBehind(t *testing.T) {
	const alike = 0xcbf29ce484222325 // by this seed all texts of zeros have the hash 0
	d := New[int](alike)
	var keys []string
	for n := range 3*api.Room + 1 {
		keys = append(keys, strings.Repeat("\x00", n))
	}
	for n, k := range keys {
		d.Put(k, n)
		if want := n/api.Room + 1; len(d.places[0].tables) != want {
			t.Fatalf("%d keys of one hash: %d tables", n+1, len(d.places[0].tables))
		}
	}
	wantShared(t, d)
	for n, k := range keys {
		d.Delete(k)
		if want := max(4-(n+1)/api.Room, 1); len(d.places[0].tables) != want {
			t.Fatalf("%d keys of one hash went: %d tables", n+1, len(d.places[0].tables))
		}
	}
	wantShared(t, d)
}

// A new key takes the room that another one left in a table ahead, and no table more.
func TestRoomAhead(t *testing.T) {
	const alike = 0xcbf29ce484222325
	d := New[int](alike)
	for n := range 3 * api.Room {
		d.Put(strings.Repeat("\x00", n), n)
	}
	for n := range 3 * api.Room {
		d.Delete(strings.Repeat("\x00", n))
		d.Put(strings.Repeat("\x00", n+3*api.Room), n)
		if len(d.places[0].tables) != 3 {
			t.Fatalf("%d keys of one hash: %d tables", d.Len(), len(d.places[0].tables))
		}
	}
}
