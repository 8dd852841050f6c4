package value_test

import (
	"math/rand"
	"testing"

	"tallboy/api"
	"tallboy/value"
)

// player is a value and its model.
type player struct {
	v *value.Value
	w *model
}

// play adds, drops or lays away a copy by chance.
func (p *player) play(r *rand.Rand, texts []string) {
	s, what := texts[r.Intn(len(texts))], texts[r.Intn(len(texts))]
	switch r.Intn(8) {
	case 0, 1, 2, 3:
		add(p.v, p.w, s, what)
	case 4, 5, 6:
		drop(p.v, p.w, s)
	default:
		p.v, p.w = p.v.Copy(), p.w.copied()
	}
}

// All promises at once: values of all Kinds that are changed by chance, each beside its model, and each held against each other.
func TestPlays(t *testing.T) {
	r := rand.New(rand.NewSource(15))
	texts := []string{"a", "b", "1", "23", "-5", sized(1, 10)}
	sames, others := 0, 0
	for range 60 {
		players := []player{{}, {}}
		for i := range 16 {
			v, w := both(kinds[i%4], r.Uint64(), limits(r.Intn(7)-1, r.Intn(12)-1))
			players = append(players, player{v, w})
		}
		for range 60 {
			for i := range players[2:] {
				p := &players[2+i]
				p.play(r, texts)
				wantValue(t, p.v, p.w)
			}
			a, b := players[r.Intn(len(players))], players[r.Intn(len(players))]
			wantSame(t, a.v, b.v, a.w.same(b.w), "by chance")
		}
		for _, a := range players {
			for _, b := range players {
				wantSame(t, a.v, b.v, a.w.same(b.w), "by chance")
				if a.w.same(b.w) {
					sames++
				} else {
					others++
				}
			}
		}
	}
	if sames < 60*20 || others < 60*200 {
		t.Errorf("%d were the same, %d not: too few to tell", sames, others)
	}
}

// The same with collections that hold much, from just under their limits to far beyond.
func TestLongPlays(t *testing.T) {
	r := rand.New(rand.NewSource(16))
	texts := append(names(150), sized(3, 61), longest, "")
	for _, kind := range collections {
		for round := range 6 {
			v, w := both(kind, r.Uint64(), limits([]int{0, 60, 512}[round%3], 60))
			p, before := player{v, w}, player{v.Copy(), w.copied()}
			for i := range 400 {
				p.play(r, texts)
				wantValue(t, p.v, p.w)
				wantSame(t, p.v, before.v, p.w.same(before.w), "now and then")
				if i%10 == 0 {
					before = player{p.v.Copy(), p.w.copied()}
				}
			}
			wantValue(t, before.v, before.w)
		}
	}
}

// R4: the same calls make values that tell the same, with every order.
func TestAgain(t *testing.T) {
	for _, kind := range kinds {
		for _, l := range []api.Limits{{}, limits(5, 9), limits(512, 60)} {
			run := func() string {
				r := rand.New(rand.NewSource(17))
				v, w := both(kind, 3, l)
				p := player{v, w}
				for range 300 {
					p.play(r, names(40))
				}
				return told(p.v)
			}
			if first := run(); run() != first {
				t.Errorf("R4: the same calls of Kind %d tell unlike things", kind)
			}
		}
	}
}
