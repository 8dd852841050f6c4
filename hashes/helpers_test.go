package hashes_test

import (
	"errors"
	"fmt"
	"maps"
	"reflect"
	"slices"
	"strconv"
	"strings"
	"testing"

	"tallboy/api"
	"tallboy/cmd"
	"tallboy/fault"
	"tallboy/hashes"
	"tallboy/reply"
	"tallboy/space"
	"tallboy/value"
)

const (
	least = "-9223372036854775808"
	most  = "9223372036854775807"
)

// limits are those of a play's space.
var limits = api.Limits{Entries: 3, Text: 9}

// longest is a text of as many bytes as a word may have.
var longest = strings.Repeat("x", api.MaxEntry)

// null is what is told of a field that is not there.
var null = api.Reply{Kind: api.Null}

// noNumbers are texts that num.Parse does not take.
var noNumbers = []string{"", "x", "1.5", "+1", "-0", "007", "-", " 1", "1 ", "1e3", "0x10", "9223372036854775808", "-9223372036854775809", "1\x00", "\xff"}

// others are a value of each Kind but a hash.
var others = map[string]int{"text": api.String, "set": api.Set, "list": api.List}

// commands are all of group 2, each with words behind its key that are right.
var commands = map[string][]string{
	"hset": {"f", "v"}, "hsetnx": {"f", "v"}, "hget": {"f"}, "hmget": {"f"}, "hdel": {"f"}, "hexists": {"f"}, "hlen": {},
	"hkeys": {}, "hvals": {}, "hgetall": {}, "hincrby": {"n", "2"}, "hstrlen": {"f"}, "hscan": {"0"},
}

// sortedNames are the names of all commands of hashes.
func sortedNames() []string {
	return slices.Sorted(maps.Keys(commands))
}

// of is a request: a command, its key, and the right words behind it.
func of(name, key string) []string {
	return append([]string{name, key}, commands[name]...)
}

// play is a space and a time.
type play struct {
	*testing.T
	s   *space.Space
	now int64
}

// fresh is a play at the time 1000, with nothing in it.
func fresh(t *testing.T) *play {
	return within(t, limits)
}

// within is a play whose hashes are packed within limits.
func within(t *testing.T, l api.Limits) *play {
	return &play{T: t, s: space.New(api.Config{Seed: 5, Limits: l}), now: 1000}
}

// hashOf is a hash of pairs.
func hashOf(l api.Limits, pairs ...string) *value.Value {
	v := value.New(api.Hash, 3, l)
	for pair := range slices.Chunk(pairs, 2) {
		v.Hash.Set(pair[0], pair[1])
	}
	return v
}

// other is a value of a Kind that is no hash.
func other(kind int) *value.Value {
	v := value.New(kind, 1, limits)
	switch kind {
	case api.String:
		v.Text = "12"
	case api.Set:
		v.Set.Add("f")
	case api.List:
		v.List.Right("f", "v")
	}
	return v
}

// ways are those in which hashes of the same pairs are kept.
var ways = map[string]func(pairs ...string) *value.Value{
	"packed": func(pairs ...string) *value.Value {
		return hashOf(api.Limits{Entries: 512, Text: 60}, pairs...)
	},
	"not packed at all": func(pairs ...string) *value.Value {
		return hashOf(api.Limits{}, pairs...)
	},
	"with more fields before": func(pairs ...string) *value.Value {
		v := hashOf(api.Limits{Entries: 3, Text: 60}, "one", "", "two", "", "three", "", "four", "")
		for _, f := range []string{"one", "two", "three", "four"} {
			v.Hash.Delete(f)
		}
		for pair := range slices.Chunk(pairs, 2) {
			v.Hash.Set(pair[0], pair[1])
		}
		return v
	},
	"with a longer value before": func(pairs ...string) *value.Value {
		v := hashOf(api.Limits{Entries: 512, Text: 60}, slices.Concat(pairs, []string{"longer", longest})...)
		v.Hash.Delete("longer")
		return v
	},
}

// put lets a key have a value, without a command.
func (p *play) put(key string, v *value.Value) {
	p.Helper()
	if p.s.Put(key, v, p.now) != api.OK {
		p.Fatalf("Put(%.20q)", key)
	}
}

// hash lets a key have a hash of pairs, without a command.
func (p *play) hash(key string, pairs ...string) {
	p.Helper()
	p.put(key, hashOf(limits, pairs...))
}

// timed lets a key have a hash of pairs until a time.
func (p *play) timed(key string, at int64, pairs ...string) {
	p.Helper()
	p.hash(key, pairs...)
	p.s.Expire(key, at, p.now)
}

// collect lets each Kind's name be a key with a value of it, and an expiry.
func (p *play) collect() {
	for _, key := range slices.Sorted(maps.Keys(others)) {
		p.put(key, other(others[key]))
		p.s.Expire(key, p.now+500, p.now)
	}
}

// state is what is known of a key.
type state struct {
	version uint64
	value   *value.Value
	copied  *value.Value
	at      int64
	timed   bool
}

// same tells whether nothing happened to a key.
func (a state) same(b state) bool {
	return a.version == b.version && a.value == b.value && value.Same(a.copied, b.copied) && a.copied.Encoding() == b.copied.Encoding() && a.at == b.at && a.timed == b.timed
}

// states are those of all keys that are there, and of some others.
func (p *play) states(others []string) map[string]state {
	m := map[string]state{}
	for _, key := range slices.Concat(p.s.Keys(p.now), others) {
		v := p.s.Get(key, p.now)
		at, timed := p.s.Expiry(key, p.now)
		m[key] = state{p.s.Version(key, p.now), v, v.Copy(), at, timed}
	}
	return m
}

// unchanged tells whether two lists of states are the same.
func unchanged(a, b map[string]state) bool {
	return maps.EqualFunc(a, b, state.same)
}

// show tells a request for messages.
func show(args []string) string {
	var l []string
	for _, s := range args {
		l = append(l, fmt.Sprintf("%.24q", s))
	}
	return strings.Join(l[:min(len(l), 10)], " ")
}

// cut is a reply for messages.
func cut(r api.Reply) string {
	return fmt.Sprintf("%.120q", fmt.Sprint(r))
}

// bare tells whether fields that have no meaning in a reply are zero, in its parts too.
func bare(r api.Reply) bool {
	for _, part := range r.L {
		if !bare(part) {
			return false
		}
	}
	switch r.Kind {
	case api.Bulk:
		return r.N == 0 && r.L == nil
	case api.Int:
		return r.S == "" && r.L == nil
	case api.Null:
		return reflect.DeepEqual(r, null)
	case api.Array, api.MapReply, api.SetReply:
		return r.S == "" && r.N == 0
	}
	return false
}

// do does a command. Whatever it is: the words that it was handed stay as they are, those in their spare room too; beside a refusal there is nothing, and nothing has changed; and a command that does not write changes nothing.
func (p *play) do(args ...string) (api.Reply, error) {
	p.Helper()
	was := p.states(args)
	room := append(slices.Clone(args), "spare", "MATCH", "x", "COUNT", "1")
	handed := slices.Clone(room)
	r, err := hashes.Do(p.s, p.now, 7, room[:len(args)])
	if !slices.Equal(room, handed) {
		p.Errorf("R2: %s: the words are %s", show(args), show(room))
	}
	if err != nil {
		p.refusal(r, err, args)
	} else if !bare(r) {
		p.Errorf("R3: %s: %s", show(args), cut(r))
	}
	if c, _ := cmd.Lookup(args[0]); err != nil || !c.Write {
		if is := p.states(args); !unchanged(was, is) {
			p.Errorf("R3: %s (%v): %.90q was there, %.90q is", show(args), err, fmt.Sprint(was), fmt.Sprint(is))
		}
	}
	return r, err
}

// refusal asks for one fault of the command's name, and nothing beside it.
func (p *play) refusal(r api.Reply, err error, args []string) {
	p.Helper()
	var why api.Code
	f, ok := err.(*fault.Fault)
	if !ok || f == nil || f.Cmd != cmd.Lower(args[0]) || fault.Depth(err) != 1 || !errors.As(err, &why) || f.Err != error(why) {
		p.Errorf("P22.1: %s: %v", show(args), err)
	}
	if !reflect.DeepEqual(r, api.Reply{}) {
		p.Errorf("R3: %s: %v beside %v", show(args), r, err)
	}
}

// tells asks for a reply, in any order where that is free.
func (p *play) tells(want api.Reply, args ...string) {
	p.Helper()
	r, err := p.do(args...)
	if err != nil || !reply.Alike(r, want) {
		p.Errorf("P22.1: %s: %s, %v, want %s", show(args), cut(r), err, cut(want))
	}
}

// null asks for Null.
func (p *play) null(args ...string) {
	p.Helper()
	p.tells(null, args...)
}

// number asks for a number.
func (p *play) number(n int64, args ...string) {
	p.Helper()
	p.tells(api.Reply{Kind: api.Int, N: n}, args...)
}

// bulk asks for a text.
func (p *play) bulk(s string, args ...string) {
	p.Helper()
	p.tells(api.Reply{Kind: api.Bulk, S: s}, args...)
}

// refused asks for a refusal.
func (p *play) refused(why api.Code, args ...string) {
	p.Helper()
	if r, err := p.do(args...); err == nil || fault.Code(err) != why {
		p.Errorf("P22.1: %s: %s, %v, want %v", show(args), cut(r), err, why)
	}
}

// has asks that a key has a hash of just these pairs.
func (p *play) has(key string, pairs ...string) {
	p.Helper()
	v := p.s.Get(key, p.now)
	if v == nil || v.Kind != api.Hash || v.Text != "" || v.Set != nil || v.List != nil || !value.Same(v, hashOf(limits, pairs...)) {
		p.Errorf("P22.1: %.20q has %s, want %.90q", key, inside(v), pairs)
	}
}

// inside tells what a value has, for messages.
func inside(v *value.Value) string {
	if v == nil || v.Hash == nil {
		return fmt.Sprint(v)
	}
	return fmt.Sprintf("%.120q", fmt.Sprint(v.Hash.All()))
}

// hasNot asks that a key is not there.
func (p *play) hasNot(key string) {
	p.Helper()
	if v := p.s.Get(key, p.now); v != nil {
		p.Errorf("P22.1: %.20q has %s, want nothing", key, inside(v))
	}
}

// packed asks how a key's hash is kept.
func (p *play) packed(key string, want bool) {
	p.Helper()
	v := p.s.Get(key, p.now)
	if v == nil || v.Hash == nil || v.Hash.Packed() != want {
		p.Errorf("P22.1: %.20q has %s: want Packed %t", key, inside(v), want)
	}
}

// until asks for a key's expiry.
func (p *play) until(key string, want int64) {
	p.Helper()
	if at, ok := p.s.Expiry(key, p.now); !ok || at != want {
		p.Errorf("P22.1: %.20q has the expiry %d, %t, want %d", key, at, ok, want)
	}
}

// endless asks that a key is there and has no expiry.
func (p *play) endless(key string) {
	p.Helper()
	if at, ok := p.s.Expiry(key, p.now); ok || p.s.Get(key, p.now) == nil {
		p.Errorf("P22.1: %.20q has the expiry %d, %t, want none", key, at, ok)
	}
}

// changes asks which keys a command changes, and that it is not refused.
func (p *play) changes(want []string, args ...string) {
	p.Helper()
	was := p.states(args)
	if _, err := p.do(args...); err != nil {
		p.Errorf("P22.1: %s: %v", show(args), err)
	}
	var got []string
	for key := range was {
		if is := p.s.Version(key, p.now); is > was[key].version {
			got = append(got, key)
		} else if is < was[key].version {
			p.Errorf("P16.3: %s: the Version of %.20q was %d, is %d", show(args), key, was[key].version, is)
		}
	}
	slices.Sort(got)
	if !slices.Equal(got, want) {
		p.Errorf("P22.1: %s changed %q, want %q", show(args), got, want)
	}
}

// array is an Array of texts, and Null for each that is none.
func array(l ...string) api.Reply {
	r := reply.Bulks(l...)
	for i, s := range l {
		if s == "none" {
			r.L[i] = null
		}
	}
	return r
}

// setOf is a SetReply of texts.
func setOf(l ...string) api.Reply {
	return api.Reply{Kind: api.SetReply, L: reply.Bulks(l...).L}
}

// mapOf is a MapReply of fields, each ahead of its value.
func mapOf(l ...string) api.Reply {
	return api.Reply{Kind: api.MapReply, L: reply.Bulks(l...).L}
}

// scanned is what a scan tells: a cursor, and pairs.
func scanned(next string, pairs ...string) api.Reply {
	return api.Reply{Kind: api.Array, L: []api.Reply{reply.Bulk(next), mapOf(pairs...)}}
}

// many are n pairs: fields of many lengths, each with a value of its own.
func many(n int) []string {
	var l []string
	for i := range n {
		l = append(l, "field"+strings.Repeat("z", i%7)+strconv.Itoa(i), "value"+strconv.Itoa(i))
	}
	return l
}
