package strs_test

import (
	"strings"
	"testing"

	"tallboy/api"
	"tallboy/reply"
	"tallboy/strs"
)

// TestWhatIsTouched has rows of commands: behind each, the keys that it changes. They are done one behind the other.
func TestWhatIsTouched(t *testing.T) {
	p := fresh(t)
	for row := range strings.Lines(`set a 1 => a
set a 1 => a
get a =>
strlen a =>
getrange a 0 -1 =>
getbit a 1 =>
bitcount a =>
mget a b a =>
setnx a 2 =>
setnx b 2 => b
set b 3 NX =>
set c 3 XX =>
set b 3 XX => b
set b 3 GET => b
set b 3 EX 5 => b
set b 3 KEEPTTL => b
append b  =>
append b x => b
append c  => c
append c  =>
incrby a 0 =>
decrby a 0 =>
incr a => a
decr a => a
incrby a 5 => a
decrby a 5 => a
setrange a 0 1 =>
setrange a 0 9 => a
setrange a 1 9 => a
setrange a 5  =>
setrange d 5  =>
setrange d 0 x => d
setrange d 0 x =>
setbit d 7 0 =>
setbit d 7 1 => d
setbit d 99 0 => d
setbit d 99 0 =>
setbit e 0 0 => e
getset a 9 => a
getset a 9 => a
mset a 1 b 2 => a b
mset a 1 b 2 => a b
mset a 1 a 1 => a
getdel b => b
getdel b =>
get b =>
mget b b =>
`) {
		line, want, _ := strings.Cut(strings.TrimSuffix(row, "\n"), " =>")
		p.changes(strings.Fields(want), strings.Split(line, " ")...)
	}
}

// TestWhatKeepsAnExpiry has the commands that change a text where it is.
func TestWhatKeepsAnExpiry(t *testing.T) {
	for _, args := range [][]string{
		{"append", "a", "1"}, {"append", "a", ""}, {"incr", "a"}, {"decr", "a"}, {"incrby", "a", "5"}, {"incrby", "a", "0"}, {"decrby", "a", "5"},
		{"setrange", "a", "1", "9"}, {"setrange", "a", "5", "9"}, {"setrange", "a", "0", "41"}, {"setrange", "a", "0", ""}, {"setbit", "a", "7", "1"}, {"setbit", "a", "7", "0"}, {"setbit", "a", "100", "0"},
		{"setnx", "a", "9"}, {"set", "a", "9", "NX"}, {"set", "a", "9", "KEEPTTL"}, {"set", "a", "9", "KEEPTTL", "XX"},
		{"get", "a"}, {"strlen", "a"}, {"getrange", "a", "0", "-1"}, {"getbit", "a", "1"}, {"bitcount", "a"}, {"mget", "a"},
	} {
		p := fresh(t)
		p.timed("a", "41", 9000)
		if _, err := p.do(args...); err != nil {
			t.Errorf("P21.1: %s: %v", show(args), err)
		}
		p.until("a", 9000)
		p.now = 8999
		if p.s.Get("a", p.now) == nil {
			t.Errorf("P21.1: %s: the key is not there", show(args))
		}
		p.now = 9000
		p.hasNot("a")
		// Nor does a key come by one.
		p = fresh(t)
		p.text("a", "41")
		_, _ = p.do(args...)
		p.endless("a")
	}
}

// ended is a play in which a hash, a list and two texts have come to their end, and nobody has asked for them since.
func ended(t *testing.T) *play {
	p := fresh(t)
	p.collect()
	p.timed("a", "41", 1500)
	p.timed("x", longest, 1500)
	p.now = 1500
	return p
}

// TestEndedKeys asks for keys whose time has come: they are as keys that are not there.
func TestEndedKeys(t *testing.T) {
	for _, key := range []string{"a", "x", "hash", "set", "list"} {
		for _, name := range sortedNames() {
			want, why := strs.Do(fresh(t).s, 1500, 0, of(name, key))
			p := ended(t)
			// The command is the first one to ask for the key at this time.
			got, err := strs.Do(p.s, p.now, 0, of(name, key))
			if err != nil || why != nil || !reply.Same(got, want) {
				t.Errorf("P21.1: %s of a key that has come to its end: %v, %v, want %v, %v", name, got, err, want, why)
			}
			if _, timed := p.s.Expiry(key, p.now); timed {
				t.Errorf("P21.1: %s of a key that has come to its end: an expiry", name)
			}
		}
		// Just ahead of it the key is there still.
		p := ended(t)
		if r, err := strs.Do(p.s, 1499, 0, []string{"setnx", key, "v"}); err != nil || !reply.Same(r, reply.Int(0)) {
			t.Errorf("P21.1: setnx ahead of a key's end: %v, %v", r, err)
		}
	}
}

// TestSetOfEndedKeys has its options hold for a key that is not there any more.
func TestSetOfEndedKeys(t *testing.T) {
	for _, key := range []string{"a", "hash"} {
		for _, x := range []struct {
			words []string
			told  api.Reply
			there bool
		}{
			{[]string{"NX"}, reply.OK(), true}, {[]string{"XX"}, null, false}, {[]string{"GET"}, null, true}, {[]string{"NX", "GET"}, null, true},
			{[]string{"XX", "GET"}, null, false}, {[]string{"KEEPTTL"}, reply.OK(), true}, {[]string{"XX", "KEEPTTL"}, null, false},
		} {
			p := ended(t)
			r, err := strs.Do(p.s, p.now, 0, append([]string{"set", key, "v"}, x.words...))
			if err != nil || !reply.Same(r, x.told) {
				t.Errorf("P21.1: set with %s of a key that has come to its end: %v, %v, want %v", show(x.words), r, err, x.told)
			}
			if x.there {
				p.has(key, "v")
				p.endless(key)
			} else {
				p.hasNot(key)
			}
		}
	}
}

// TestMgetOfEndedKeys asks for several at once.
func TestMgetOfEndedKeys(t *testing.T) {
	p := ended(t)
	p.text("b", "1")
	p.tells(texts("none", "1", "none", "none"), "mget", "a", "b", "hash", "x")
	p.now++
	p.ok("set", "c", "v", "PX", "1")
	p.tells(texts("v"), "mget", "c")
	p.now++
	p.tells(texts("none", "1"), "mget", "c", "b")
}

// TestWhichOfTwo asks where more than one refusal would fit.
func TestWhichOfTwo(t *testing.T) {
	p := fresh(t)
	p.collect()
	p.text("x", "x")
	p.text("long", longest)
	for _, row := range []struct {
		why  api.Code
		args string
	}{
		// Words ahead of numbers, these ahead of what keys have, that ahead of what is done.
		{api.ErrSyntax, "set list v EX x foo"},
		{api.ErrSyntax, "set list v EX 0 GET GET"},
		{api.ErrSyntax, "set list v foo GET"},
		{api.ErrSyntax, "set list v GET EX"},
		{api.ErrInt, "set list v GET EX x"},
		{api.ErrInt, "set list v PX 1.5 GET"},
		{api.ErrExpire, "set list v GET EX 0"},
		{api.ErrExpire, "set list v PX -1 GET NX"},
		{api.ErrExpire, "set list v EX 9223372036854776 GET"},
		{api.ErrType, "set list v EX 5 GET"},
		{api.ErrType, "set list v NX GET"},
		{api.ErrInt, "incrby list x"},
		{api.ErrInt, "decrby list x"},
		{api.ErrInt, "decrby list -9223372036854775809"},
		{api.ErrOver, "decrby list -9223372036854775808"},
		{api.ErrOver, "decrby x -9223372036854775808"},
		{api.ErrType, "incrby list -9223372036854775808"},
		{api.ErrInt, "incrby x 9223372036854775807"},
		{api.ErrInt, "getrange list 0 x"},
		{api.ErrInt, "getrange list x 0"},
		{api.ErrType, "getrange list 0 0"},
		{api.ErrInt, "setrange list x y"},
		{api.ErrType, "setrange list -1 y"},
		{api.ErrType, "setrange list 65536 y"},
		{api.ErrOffset, "setrange long -1 y"},
		{api.ErrBit, "getbit list x"},
		{api.ErrBit, "getbit list -1"},
		{api.ErrBit, "getbit list 524288"},
		{api.ErrBit, "setbit list x 1"},
		{api.ErrBit, "setbit list 524288 1"},
		{api.ErrBit, "setbit list 0 2"},
		{api.ErrBit, "setbit list x 2"},
		{api.ErrType, "setbit list 0 1"},
		{api.ErrSyntax, "bitcount list 0"},
		{api.ErrSyntax, "bitcount list x"},
		{api.ErrInt, "bitcount list 0 x"},
		{api.ErrInt, "bitcount list x 0"},
		{api.ErrType, "bitcount list 0 0"},
		{api.ErrType, "append list " + longest[:api.MaxEntry]},
		{api.ErrLong, "append long y"},
		{api.ErrArity, "get list x"},
		{api.ErrUnknown, "lset list x y"},
	} {
		p.refused(row.why, strings.Split(row.args, " ")...)
	}
}
