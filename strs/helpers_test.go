package strs_test

import (
	"errors"
	"fmt"
	"maps"
	"reflect"
	"slices"
	"strings"
	"testing"

	"tallboy/api"
	"tallboy/cmd"
	"tallboy/fault"
	"tallboy/reply"
	"tallboy/space"
	"tallboy/strs"
	"tallboy/value"
)

const (
	// latest is the greatest time that is promised anything.
	latest = 1 << 50

	least = "-9223372036854775808"
	most  = "9223372036854775807"
)

// longest is a text of as many bytes as a string may have; words are shorter.
var longest = strings.Repeat("x", api.MaxText)

// null is what is told of a text that is not there.
var null = api.Reply{Kind: api.Null}

// collections are a value of each Kind but a string.
var collections = map[string]int{"hash": api.Hash, "set": api.Set, "list": api.List}

// commands are all of group 1, each with words behind its key that are right.
var commands = map[string][]string{
	"get": {}, "set": {"v"}, "setnx": {"v"}, "getset": {"v"}, "getdel": {}, "append": {"v"}, "strlen": {},
	"incr": {}, "decr": {}, "incrby": {"2"}, "decrby": {"2"}, "getrange": {"0", "-1"}, "setrange": {"1", "v"},
	"getbit": {"1"}, "setbit": {"7", "1"}, "bitcount": {}, "mget": {}, "mset": {"v"},
}

// of is a request: a command, its key, and the right words behind it.
func of(name, key string) []string {
	return append([]string{name, key}, commands[name]...)
}

// play is a space and a time.
type play struct {
	*testing.T
	s   *space.Space
	now int64
}

// fresh is a play at the time 1000, with nothing in it.
func fresh(t *testing.T) *play {
	return &play{T: t, s: space.New(api.Config{Seed: 5, Limits: api.Limits{Entries: 3, Text: 9}}), now: 1000}
}

// made is a value of a Kind with these texts.
func made(kind int, texts ...string) *value.Value {
	v := value.New(kind, 1, api.Limits{Entries: 3, Text: 9})
	for _, s := range texts {
		switch kind {
		case api.String:
			v.Text += s
		case api.Hash:
			v.Hash.Set(s, s)
		case api.Set:
			v.Set.Add(s)
		case api.List:
			v.List.Right(s)
		}
	}
	return v
}

// text lets a key have a text, without a command.
func (p *play) text(key, s string) {
	p.Helper()
	if p.s.Put(key, value.OfText(s), p.now) != api.OK {
		p.Fatalf("Put(%.20q)", key)
	}
}

// timed lets a key have a text until a time.
func (p *play) timed(key, s string, at int64) {
	p.Helper()
	p.text(key, s)
	p.s.Expire(key, at, p.now)
}

// collect lets each Kind's name be a key with a value of it, and an expiry.
func (p *play) collect() {
	for key, kind := range collections {
		p.s.Put(key, made(kind, "a", "b"), p.now)
		p.s.Expire(key, p.now+500, p.now)
	}
}

// state is what is known of a key.
type state struct {
	version uint64
	value   *value.Value
	copied  *value.Value
	at      int64
	timed   bool
}

// same tells whether nothing happened to a key.
func (a state) same(b state) bool {
	return a.version == b.version && a.value == b.value && value.Same(a.copied, b.copied) && a.at == b.at && a.timed == b.timed
}

// states are those of all keys that are there, and of some others.
func (p *play) states(others []string) map[string]state {
	m := map[string]state{}
	for _, key := range slices.Concat(p.s.Keys(p.now), others) {
		v := p.s.Get(key, p.now)
		at, timed := p.s.Expiry(key, p.now)
		m[key] = state{p.s.Version(key, p.now), v, v.Copy(), at, timed}
	}
	return m
}

// show tells a request for messages.
func show(args []string) string {
	var l []string
	for _, s := range args {
		l = append(l, fmt.Sprintf("%.24q", s))
	}
	return strings.Join(l[:min(len(l), 10)], " ")
}

// cut is a reply for messages.
func cut(r api.Reply) string {
	return fmt.Sprintf("%.90q", fmt.Sprint(r))
}

// do does a command. Whatever it is: the words that it was handed stay as they are, those in their spare room too; beside a refusal there is nothing, and nothing has changed; and a command that does not write changes nothing.
func (p *play) do(args ...string) (api.Reply, error) {
	p.Helper()
	was := p.states(args)
	room := append(slices.Clone(args), "spare", "nx", "1")
	handed := slices.Clone(room)
	r, err := strs.Do(p.s, p.now, 7, room[:len(args)])
	if !slices.Equal(room, handed) {
		p.Errorf("R2: %s: the words are %s", show(args), show(room))
	}
	if err != nil {
		p.refusal(r, err, args)
	}
	if c, _ := cmd.Lookup(args[0]); err != nil || !c.Write {
		is := p.states(args)
		if len(is) != len(was) {
			p.Errorf("R3: %s: %d keys, then %d", show(args), len(was), len(is))
		}
		for key, s := range is {
			if !s.same(was[key]) {
				p.Errorf("R3: %s (%v): %.20q was %v, is %v", show(args), err, key, was[key], s)
			}
		}
	}
	return r, err
}

// refusal asks for one fault of the command's name, and nothing beside it.
func (p *play) refusal(r api.Reply, err error, args []string) {
	p.Helper()
	var why api.Code
	f, ok := err.(*fault.Fault)
	if !ok || f == nil || f.Cmd != cmd.Lower(args[0]) || fault.Depth(err) != 1 || !errors.As(err, &why) || f.Err != error(why) {
		p.Errorf("P21.1: %s: %v", show(args), err)
	}
	if !reflect.DeepEqual(r, api.Reply{}) {
		p.Errorf("R3: %s: %v beside %v", show(args), r, err)
	}
}

// tells asks for a reply.
func (p *play) tells(want api.Reply, args ...string) {
	p.Helper()
	r, err := p.do(args...)
	if err != nil || !reflect.DeepEqual(r, want) {
		p.Errorf("P21.1: %s: %s, %v, want %s", show(args), cut(r), err, cut(want))
	}
}

// ok asks for OK.
func (p *play) ok(args ...string) {
	p.Helper()
	p.tells(api.Reply{Kind: api.Simple, S: "OK"}, args...)
}

// null asks for Null.
func (p *play) null(args ...string) {
	p.Helper()
	p.tells(null, args...)
}

// number asks for a number.
func (p *play) number(n int64, args ...string) {
	p.Helper()
	p.tells(api.Reply{Kind: api.Int, N: n}, args...)
}

// bulk asks for a text.
func (p *play) bulk(s string, args ...string) {
	p.Helper()
	p.tells(api.Reply{Kind: api.Bulk, S: s}, args...)
}

// refused asks for a refusal.
func (p *play) refused(why api.Code, args ...string) {
	p.Helper()
	if r, err := p.do(args...); err == nil || fault.Code(err) != why {
		p.Errorf("P21.1: %s: %s, %v, want %v", show(args), cut(r), err, why)
	}
}

// has asks that a key has a text.
func (p *play) has(key, want string) {
	p.Helper()
	v := p.s.Get(key, p.now)
	if v == nil || v.Kind != api.String || v.Text != want || v.Hash != nil || v.Set != nil || v.List != nil {
		p.Errorf("P21.1: %.20q has %.60q, want %.60q", key, fmt.Sprint(v), want)
	}
}

// hasNot asks that a key is not there.
func (p *play) hasNot(key string) {
	p.Helper()
	if v := p.s.Get(key, p.now); v != nil {
		p.Errorf("P21.1: %.20q has %.60q, want nothing", key, fmt.Sprint(v))
	}
}

// until asks for a key's expiry.
func (p *play) until(key string, want int64) {
	p.Helper()
	if at, ok := p.s.Expiry(key, p.now); !ok || at != want {
		p.Errorf("P21.1: %.20q has the expiry %d, %t, want %d", key, at, ok, want)
	}
}

// endless asks that a key is there and has no expiry.
func (p *play) endless(key string) {
	p.Helper()
	if at, ok := p.s.Expiry(key, p.now); ok || p.s.Get(key, p.now) == nil {
		p.Errorf("P21.1: %.20q has the expiry %d, %t, want none", key, at, ok)
	}
}

// changes asks which keys a command changes, and that it is not refused.
func (p *play) changes(want []string, args ...string) {
	p.Helper()
	was := p.states(args)
	if _, err := p.do(args...); err != nil {
		p.Errorf("P21.1: %s: %v", show(args), err)
	}
	var got []string
	for key := range was {
		if is := p.s.Version(key, p.now); is > was[key].version {
			got = append(got, key)
		} else if is < was[key].version {
			p.Errorf("P16.3: %s: the Version of %.20q was %d, is %d", show(args), key, was[key].version, is)
		}
	}
	slices.Sort(got)
	if !slices.Equal(got, want) {
		p.Errorf("P21.1: %s changed %q, want %q", show(args), got, want)
	}
}

// nulls are n replies of none.
func nulls(n int) api.Reply {
	return api.Reply{Kind: api.Array, L: slices.Repeat([]api.Reply{null}, n)}
}

// texts is an Array of texts, and Null for each that is none.
func texts(l ...string) api.Reply {
	r := reply.Bulks(l...)
	for i, s := range l {
		if s == "none" {
			r.L[i] = null
		}
	}
	return r
}

// sortedNames are the names of all commands of strings.
func sortedNames() []string {
	return slices.Sorted(maps.Keys(commands))
}
