package hashes_test

import (
	"fmt"
	"maps"
	"math/rand"
	"reflect"
	"slices"
	"strconv"
	"strings"
	"testing"

	"tallboy/api"
	"tallboy/cmd"
	"tallboy/fault"
	"tallboy/hashes"
	"tallboy/reply"
	"tallboy/space"
	"tallboy/value"
)

// pool are words that commands may be drawn with.
var pool = []string{"", "f", "F", "1", "0", "-1", "x", most, least, "9223372036854775806", "-9223372036854775807", "01", "\xff\x00", "MATCH", "count", "*", "f*", "18446744073709551615"}

// drawWord is any word.
func drawWord(q *rand.Rand) string {
	switch q.Intn(10) {
	case 0:
		return pool[q.Intn(len(pool))]
	case 1:
		return strings.Repeat("w", q.Intn(70))
	case 2, 3:
		return strconv.Itoa(q.Intn(24) - 8)
	}
	return "f" + strconv.Itoa(q.Intn(9))
}

// drawField is one of few, or of many.
func drawField(q *rand.Rand, many bool) string {
	if many {
		return "f" + strconv.Itoa(q.Intn(900))
	}
	return drawWord(q)
}

// drawScan are words of a scan, at times wrong ones.
func drawScan(q *rand.Rand) []string {
	l := []string{[]string{"0", "0", "0", "7", "007", most, "-1", "x"}[q.Intn(8)]}
	for range q.Intn(3) {
		switch q.Intn(8) {
		case 0, 1, 2:
			l = append(l, []string{"MATCH", "match"}[q.Intn(2)], []string{"*", "f*", "f1*", "?", "", "[0-9w]*"}[q.Intn(6)])
		case 3, 4, 5:
			l = append(l, []string{"COUNT", "Count"}[q.Intn(2)], []string{"1", "2", "10", "1000", most, "x", "0", "-1"}[q.Intn(8)])
		case 6:
			l = append(l, drawWord(q), drawWord(q))
		case 7:
			l = append(l, []string{"MATCH", "COUNT", "TYPE"}[q.Intn(3)])
		}
	}
	return l
}

// drawArgs is a request.
func drawArgs(q *rand.Rand, keys []string, many bool) []string {
	names := sortedNames()
	name := names[q.Intn(len(names))]
	if q.Intn(3) == 0 {
		name = "hset"
	}
	args := []string{name, keys[q.Intn(len(keys))]}
	if q.Intn(4) == 0 {
		args[0] = strings.ToUpper(name)
	}
	switch name {
	case "hset":
		for range 1 + q.Intn(6) {
			args = append(args, drawField(q, many), drawWord(q))
		}
	case "hsetnx":
		args = append(args, drawField(q, many), drawWord(q))
	case "hincrby":
		args = append(args, drawField(q, many), []string{"0", "1", "-7", most, least, drawWord(q)}[q.Intn(6)])
	case "hdel", "hmget":
		for range 1 + q.Intn(5) {
			args = append(args, drawField(q, many))
		}
	case "hget", "hexists", "hstrlen":
		args = append(args, drawField(q, many))
	case "hscan":
		args = append(args, drawScan(q)...)
	}
	if q.Intn(100) == 0 {
		args = args[:1+q.Intn(len(args))]
	}
	return args
}

// disturb does something to a key that is no command of hashes.
func disturb(q *rand.Rand, s *space.Space, m *model, k string) {
	switch q.Intn(6) {
	case 0:
		kind := []int{api.String, api.Set, api.List}[q.Intn(3)]
		s.Put(k, other(kind), m.now)
		m.keys[k] = held{kind: kind}
	case 1:
		s.Put(k, hashOf(limits, "f1", "1", "f2", ""), m.now)
		m.keys[k] = held{kind: api.Hash, fields: map[string]string{"f1": "1", "f2": ""}}
	case 2:
		s.Delete(k, m.now)
		delete(m.keys, k)
	case 3, 4:
		at := m.now + 1 + int64(q.Intn(90))
		if s.Expire(k, at, m.now) {
			h := m.keys[k]
			m.keys[k] = held{h.kind, h.fields, at, true}
		}
	case 5:
		s.Cycle(q.Intn(9), m.now)
	}
}

// wantState holds a space against the model.
func wantState(t *testing.T, s *space.Space, m *model, keys []string) {
	t.Helper()
	if s.Len(m.now) != len(m.keys) {
		t.Fatalf("W1: %d keys, want %d", s.Len(m.now), len(m.keys))
	}
	for _, k := range keys {
		h, there := m.keys[k]
		v := s.Get(k, m.now)
		at, timed := s.Expiry(k, m.now)
		if (v != nil) != there || there && v.Kind != h.kind || timed != h.timed || at != h.at {
			t.Fatalf("W1: %q has %s, %d, %t, want %.80q", k, inside(v), at, timed, fmt.Sprint(h))
		}
		if there && h.kind == api.Hash && !maps.Equal(asMap(v), h.fields) {
			t.Fatalf("W1: %q has %s, want %.80q", k, inside(v), fmt.Sprint(h))
		}
	}
}

// asMap has the pairs of a hash.
func asMap(v *value.Value) map[string]string {
	m := map[string]string{}
	for _, p := range v.Hash.All() {
		m[p.Field] = p.Value
	}
	return m
}

// wantScan holds what a scan tells against all that match: a part of it, and the whole of it from 0 to 0.
func wantScan(t *testing.T, args []string, got, all api.Reply, err error) {
	t.Helper()
	l, next := pairsOf(t, got, err)
	told := map[string]int{}
	for i := 0; i < len(all.L); i += 2 {
		told[fmt.Sprint(all.L[i].S, "\x00", all.L[i+1].S)] = 1
	}
	for _, p := range l {
		if told[fmt.Sprint(p.Field, "\x00", p.Value)]--; told[fmt.Sprint(p.Field, "\x00", p.Value)] < 0 {
			t.Fatalf("W2: %s told %q, which is not there, or twice", show(args), p)
		}
	}
	if args[2] == "0" && next == "0" && 2*len(l) != len(all.L) {
		t.Fatalf("W2: %s told %d pairs of %d", show(args), len(l), len(all.L)/2)
	}
}

// step does one command by both, and holds what is told, and which keys are changed.
func step(t *testing.T, s *space.Space, m *model, args, keys []string) api.Code {
	t.Helper()
	was := map[string]uint64{}
	for _, k := range keys {
		was[k] = s.Version(k, m.now)
	}
	m.changed = map[string]int{}
	want, code := m.do(args)
	got, err := hashes.Do(s, m.now, 3, args)
	name := cmd.Lower(args[0])
	switch {
	case fault.Code(err) != code:
		t.Fatalf("W1: %s: %s, %v, want %s, %v", show(args), cut(got), err, cut(want), code)
	case err != nil:
		if fault.Cmd(err) != name || !reflect.DeepEqual(got, api.Reply{}) {
			t.Fatalf("P22.1: %s: %v, %v", show(args), got, err)
		}
	case name == "hscan":
		wantScan(t, args, got, want, err)
	case !reply.Alike(got, want) || !bare(got):
		t.Fatalf("W1: %s: %s, want %s", show(args), cut(got), cut(want))
	}
	for _, k := range keys {
		if is := s.Version(k, m.now); (is > was[k]) != (m.changed[k] > 0) || is < was[k] {
			t.Fatalf("P22.1: %s (%v): the Version of %q was %d, is %d, changes: %d", show(args), err, k, was[k], is, m.changed[k])
		}
	}
	return code
}

// TestPlays does drawn commands, and what disturbs them, to a space and the model; seeds and limits make no difference.
func TestPlays(t *testing.T) {
	seen := map[string]int{}
	for seed := range int64(24) {
		q := rand.New(rand.NewSource(seed))
		s := space.New(api.Config{Seed: uint64(seed) * 0x9e3779b97f4a7c15, Limits: api.Limits{Entries: int(seed) % 7, Text: int(seed) % 11}})
		m := &model{keys: map[string]held{}}
		keys := []string{"", "a", "b", "c", "MATCH", "\xff", "1"}[:2+seed%6]
		now := int64(0)
		if seed%4 == 3 {
			now = 1<<50 - 4000
		}
		for range 3000 {
			m.pass(now)
			if q.Intn(25) == 0 {
				disturb(q, s, m, keys[q.Intn(len(keys))])
			}
			args := drawArgs(q, keys, false)
			was := slices.Clone(args)
			code := step(t, s, m, args, keys)
			seen[fmt.Sprint(strings.ToLower(args[0]), " ", code)]++
			if !slices.Equal(args, was) {
				t.Fatalf("R2: %s is %s", show(was), show(args))
			}
			wantState(t, s, m, keys)
			now += int64(q.Intn(6) / 5)
		}
	}
	for _, name := range sortedNames() {
		if seen[fmt.Sprint(name, " ", api.OK)] < 100 || seen[fmt.Sprint(name, " ", api.ErrType)] < 10 {
			t.Errorf("too few of %s were drawn: %v", name, seen)
		}
	}
	for _, row := range []string{
		fmt.Sprint("hincrby ", api.ErrInt), fmt.Sprint("hincrby ", api.ErrOver), fmt.Sprint("hincrby ", api.ErrHashInt),
		fmt.Sprint("hscan ", api.ErrCursor), fmt.Sprint("hscan ", api.ErrSyntax), fmt.Sprint("hscan ", api.ErrInt), fmt.Sprint("hset ", api.ErrArity), fmt.Sprint("hget ", api.ErrArity),
	} {
		if seen[row] < 3 {
			t.Errorf("too few of %s were drawn: %d", row, seen[row])
		}
	}
}

// TestGreatPlays have one hash of some hundred fields.
func TestGreatPlays(t *testing.T) {
	for seed := range int64(4) {
		q := rand.New(rand.NewSource(seed))
		s := space.New(api.Config{Seed: uint64(seed), Limits: api.Limits{Entries: 1 << uint(3*seed), Text: 60}})
		m := &model{keys: map[string]held{}}
		keys := []string{"a"}
		for i := range 4000 {
			step(t, s, m, drawArgs(q, keys, true), keys)
			if i%50 == 0 {
				wantState(t, s, m, keys)
			}
		}
		if n := s.Get("a", 0).Len(); n < 400 {
			t.Errorf("%d fields", n)
		}
	}
}

// TestConfigsMakeNoDifference does one play to spaces of several seeds and limits, and with Cycles or none.
func TestConfigsMakeNoDifference(t *testing.T) {
	var first []api.Reply
	var errs []api.Code
	for i, c := range []api.Config{{}, {Seed: 1}, {Seed: 1 << 63, Limits: api.Limits{Entries: -1, Text: -1}}, {Limits: api.Limits{Entries: 1 << 30, Text: 1 << 30}}, {Seed: 7, Limits: limits}} {
		q := rand.New(rand.NewSource(77))
		s := space.New(c)
		var all []api.Reply
		var codes []api.Code
		for now := range int64(3000) {
			if i%2 == 1 {
				s.Cycle(3, now)
			}
			args := drawArgs(q, []string{"a", "b", "c"}, false)
			r, err := hashes.Do(s, now, uint64(i), args)
			if err == nil && cmd.Lower(args[0]) == "hscan" {
				// Cursors are free, and what one scan tells hangs on them.
				r = api.Reply{}
			}
			all, codes = append(all, r), append(codes, fault.Code(err))
		}
		if i == 0 {
			first, errs = all, codes
			continue
		}
		for k := range all {
			if codes[k] != errs[k] || !reply.Alike(all[k], first[k]) {
				t.Fatalf("W3: %d: %s, %v, with %+v %s, %v", k, cut(first[k]), errs[k], c, cut(all[k]), codes[k])
			}
		}
	}
}
