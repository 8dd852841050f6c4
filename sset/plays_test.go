package sset_test

import (
	"fmt"
	"math/rand"
	"testing"
)

// P14.1: many calls by chance, held against members in a map, packed and not.
func TestPlays(t *testing.T) {
	r := rand.New(rand.NewSource(4))
	for round := range 150 {
		l := limits(r.Intn(120)-5, r.Intn(70)-3)
		s, w := both(seeds[round%len(seeds)], l)
		members := append(names(5+r.Intn(200)), someTexts()[:r.Intn(20)]...)
		if round%3 == 0 {
			members = append(members, sized(1, r.Intn(66)), sized(2, r.Intn(66)), tooLong)
		}
		adds := 3 + r.Intn(7)
		for range 4 {
			for range 100 {
				play(t, r, s, w, members, adds)
			}
			wantSet(t, s, w)
		}
		wantCopy(t, s.Copy(), w)
	}
}

// P14.1: a set that grows to many tables and wanes again, by chance.
func TestLongPlay(t *testing.T) {
	r := rand.New(rand.NewSource(5))
	s, w := both(9, limits(128, 60))
	var members []string
	for i := range 1500 {
		members = append(members, fmt.Sprint("member:", i))
	}
	for _, adds := range []int{9, 5, 1, 0, 8} {
		for range 3000 {
			play(t, r, s, w, members, adds)
		}
		wantSet(t, s, w)
		wantCopy(t, s.Copy(), w)
	}
}
