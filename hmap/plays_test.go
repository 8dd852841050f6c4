package hmap_test

import (
	"fmt"
	"math/rand"
	"strings"
	"testing"
)

// P13.1, P13.2: many calls by chance, held against pairs in a map, packed and not.
func TestPlays(t *testing.T) {
	r := rand.New(rand.NewSource(4))
	for round := range 150 {
		l := limits(r.Intn(120)-5, r.Intn(70)-3)
		m, w := both(seeds[round%len(seeds)], l)
		fields := append(names(5+r.Intn(200)), someTexts()[:r.Intn(20)]...)
		values := []string{"", "f1", "f2", "7", "300", strings.Repeat("v", r.Intn(8))}
		if round%3 == 0 {
			values = append(values, strings.Repeat("v", r.Intn(66)), tooLong)
		}
		sets := 3 + r.Intn(7)
		for range 4 {
			for range 100 {
				play(t, r, m, w, fields, values, sets)
			}
			wantMap(t, m, w)
		}
		c := m.Copy()
		wantCopy(t, c, w)
	}
}

// P13.1, P13.2: a hash that grows to many tables and wanes again, by chance.
func TestLongPlay(t *testing.T) {
	r := rand.New(rand.NewSource(5))
	m, w := both(9, limits(128, 60))
	var fields []string
	for i := range 1500 {
		fields = append(fields, fmt.Sprint("field:", i))
	}
	for _, sets := range []int{9, 5, 1, 0, 8} {
		for range 3000 {
			play(t, r, m, w, fields, []string{"1", "2", "x", longest}, sets)
		}
		wantMap(t, m, w)
	}
}
