package strs_test

import (
	"fmt"
	"math/rand"
	"reflect"
	"slices"
	"strconv"
	"strings"
	"testing"

	"tallboy/api"
	"tallboy/cmd"
	"tallboy/fault"
	"tallboy/space"
	"tallboy/strs"
	"tallboy/value"
)

// pool are words that commands may be drawn with; one that is empty in it is a small number.
var pool = []string{"", "", "", "v", "old", "1", "0", "-1", "41", "7", "8", "x", most, least, "9223372036854775806", "-9223372036854775807", "524287", "65535", "01", "\xff\x00", "9007199254740993"}

// drawWord is any word.
func drawWord(q *rand.Rand) string {
	switch q.Intn(12) {
	case 0:
		return pool[q.Intn(len(pool))]
	case 1:
		return strings.Repeat("w", q.Intn(60))
	case 2:
		return ""
	case 3, 4, 5:
		return pool[q.Intn(len(pool)-7)]
	}
	return strconv.Itoa(q.Intn(24) - 8)
}

// drawOptions are what may stand behind a set, at times what may not.
func drawOptions(q *rand.Rand) []string {
	var l []string
	for range q.Intn(4) {
		switch o := allOptions()[q.Intn(6)].words; q.Intn(6) {
		case 0:
			l = append(l, o[0])
		case 1:
			l = append(l, o[0], drawWord(q))
		case 2:
			l = append(l, strings.ToLower(o[0]))
			l = append(l, o[1:]...)
		default:
			l = append(l, o...)
		}
	}
	return l
}

// drawArgs is a request.
func drawArgs(q *rand.Rand, keys []string) []string {
	names := sortedNames()
	name := names[q.Intn(len(names))]
	c, _ := cmd.Lookup(name)
	args := []string{name}
	if q.Intn(4) == 0 {
		args[0] = strings.ToUpper(name)
	}
	args = append(args, keys[q.Intn(len(keys))])
	switch {
	case name == "set":
		args = append(args, drawWord(q))
		return append(args, drawOptions(q)...)
	case name == "mget":
		for range q.Intn(4) {
			args = append(args, keys[q.Intn(len(keys))])
		}
		return args
	case name == "mset":
		args = append(args, drawWord(q))
		for range q.Intn(3) {
			args = append(args, keys[q.Intn(len(keys))], drawWord(q))
		}
	}
	for len(args) < c.Least+q.Intn(c.Most-c.Least+1)%3 {
		args = append(args, drawWord(q))
	}
	if q.Intn(100) == 0 {
		args = args[:1+q.Intn(len(args))]
	}
	return args
}

// disturb does something to a key that is no command of strings.
func disturb(q *rand.Rand, s *space.Space, m *model, k string) {
	switch q.Intn(5) {
	case 0:
		kind := []int{api.Hash, api.Set, api.List}[q.Intn(3)]
		s.Put(k, made(kind, "a", "b", "c", "d"), m.now)
		m.keys[k] = held{kind: kind}
	case 1:
		s.Put(k, value.OfText(longest[q.Intn(40):]), m.now)
		m.keys[k] = held{kind: api.String, text: s.Get(k, m.now).Text}
	case 2:
		s.Delete(k, m.now)
		delete(m.keys, k)
	case 3:
		at := m.now + 1 + int64(q.Intn(40))
		if s.Expire(k, at, m.now) {
			h := m.keys[k]
			m.keys[k] = held{h.kind, h.text, at, true}
		}
	case 4:
		s.Cycle(q.Intn(9), m.now)
	}
}

// wantState holds a space against the model.
func wantState(t *testing.T, s *space.Space, m *model, keys []string) {
	t.Helper()
	if s.Len(m.now) != len(m.keys) {
		t.Fatalf("W1: %d keys, want %d", s.Len(m.now), len(m.keys))
	}
	for _, k := range keys {
		h, there := m.keys[k]
		v := s.Get(k, m.now)
		at, timed := s.Expiry(k, m.now)
		if (v != nil) != there || there && (v.Kind != h.kind || v.Text != h.text) || timed != h.timed || at != h.at {
			t.Fatalf("W1: %q has %.80q, %d, %t, want %.80q", k, fmt.Sprint(v), at, timed, fmt.Sprint(h))
		}
	}
}

// step does one command by both, and holds what is told, and which keys are changed.
func step(t *testing.T, s *space.Space, m *model, args, keys []string) api.Code {
	t.Helper()
	was := map[string]uint64{}
	for _, k := range keys {
		was[k] = s.Version(k, m.now)
	}
	m.changed = map[string]int{}
	want, code := m.do(args)
	got, err := strs.Do(s, m.now, 3, args)
	if fault.Code(err) != code || !reflect.DeepEqual(got, want) {
		t.Fatalf("W1: %s: %s, %v, want %s, %v", show(args), cut(got), err, cut(want), code)
	}
	if err != nil && fault.Cmd(err) != strings.ToLower(args[0]) {
		t.Fatalf("P21.1: %s: %v", show(args), err)
	}
	for _, k := range keys {
		if is := s.Version(k, m.now); (is > was[k]) != (m.changed[k] > 0) || is < was[k] {
			t.Fatalf("P21.1: %s (%v): the Version of %q was %d, is %d, changes: %d", show(args), err, k, was[k], is, m.changed[k])
		}
	}
	return code
}

// TestPlays does drawn commands, and what disturbs them, to a space and the model; seeds and limits make no difference.
func TestPlays(t *testing.T) {
	seen := map[string]int{}
	for seed := range int64(24) {
		q := rand.New(rand.NewSource(seed))
		s := space.New(api.Config{Seed: uint64(seed) * 0x9e3779b97f4a7c15, Limits: api.Limits{Entries: int(seed) % 5, Text: int(seed) % 7}})
		m := &model{keys: map[string]held{}}
		keys := []string{"", "a", "b", "c", "nx", "\xff", "1"}[:2+seed%6]
		now := int64(0)
		if seed%4 == 3 {
			now = latest - 4000
		}
		for range 4000 {
			m.changed = map[string]int{}
			m.pass(now)
			if q.Intn(12) == 0 {
				disturb(q, s, m, keys[q.Intn(len(keys))])
			}
			args := drawArgs(q, keys)
			was := slices.Clone(args)
			code := step(t, s, m, args, keys)
			seen[fmt.Sprint(strings.ToLower(args[0]), " ", code)]++
			if !slices.Equal(args, was) {
				t.Fatalf("R2: %s is %s", show(was), show(args))
			}
			wantState(t, s, m, keys)
			now += int64(q.Intn(6) / 5)
		}
	}
	for _, name := range sortedNames() {
		if seen[fmt.Sprint(name, " ", api.OK)] < 100 {
			t.Errorf("too few of %s were drawn", name)
		}
	}
	for _, row := range []string{
		fmt.Sprint("set ", api.ErrSyntax), fmt.Sprint("set ", api.ErrInt), fmt.Sprint("set ", api.ErrExpire), fmt.Sprint("set ", api.ErrType),
		fmt.Sprint("incr ", api.ErrInt), fmt.Sprint("incr ", api.ErrOver), fmt.Sprint("decrby ", api.ErrOver), fmt.Sprint("append ", api.ErrLong),
		fmt.Sprint("setrange ", api.ErrOffset), fmt.Sprint("setrange ", api.ErrLong), fmt.Sprint("setbit ", api.ErrBit), fmt.Sprint("bitcount ", api.ErrSyntax), fmt.Sprint("get ", api.ErrArity),
	} {
		if seen[row] < 3 {
			t.Errorf("too few of %s were drawn: %d", row, seen[row])
		}
	}
}

// TestConfigsMakeNoDifference does one play to spaces of several seeds and limits.
func TestConfigsMakeNoDifference(t *testing.T) {
	var first []string
	for i, c := range []api.Config{{}, {Seed: 1}, {Seed: 1 << 63, Limits: api.Limits{Entries: -1, Text: -1}}, {Limits: api.Limits{Entries: 1 << 30, Text: 1 << 30}}} {
		q := rand.New(rand.NewSource(77))
		s := space.New(c)
		var all []string
		for now := range int64(3000) {
			if i%2 == 1 {
				s.Cycle(3, now)
			}
			r, err := strs.Do(s, now, uint64(i), drawArgs(q, []string{"a", "b", "c"}))
			all = append(all, fmt.Sprint(r, err))
		}
		if first == nil {
			first = all
		} else if !slices.Equal(all, first) {
			t.Errorf("W3: what is told hangs on %+v", c)
		}
	}
}
