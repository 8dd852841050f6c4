package reply_test

import (
	"errors"
	"fmt"
	"slices"
	"strings"
	"testing"

	"tallboy/api"
	"tallboy/fault"
	"tallboy/reply"
)

func TestOK(t *testing.T) {
	for range 2 {
		wantReply(t, "P17.1: OK", reply.OK(), api.Reply{Kind: api.Simple, S: "OK"})
	}
}

func TestInt(t *testing.T) {
	for _, n := range numbers {
		wantReply(t, "P17.1: Int", reply.Int(n), api.Reply{Kind: api.Int, N: n})
	}
}

func TestBulk(t *testing.T) {
	for _, s := range append(slices.Clone(texts), "two words", "a\r\nb", strings.Repeat("x", api.MaxBulk), strings.Repeat("x", api.MaxBulk+1)) {
		wantReply(t, "P17.1: Bulk", reply.Bulk(s), api.Reply{Kind: api.Bulk, S: s})
	}
}

func TestBulks(t *testing.T) {
	wantReply(t, "P17.1: Bulks of none", reply.Bulks(), array())
	wantReply(t, "P17.1: Bulks of nil", reply.Bulks(nil...), array())
	wantReply(t, "P17.1: Bulks of an empty list", reply.Bulks([]string{}...), array())
	wantReply(t, "P17.1: Bulks of two", reply.Bulks("b", "a"), array(b, a))
	wantReply(t, "P17.1: Bulks of equal ones", reply.Bulks("a", "a", "a"), array(a, a, a))
	for _, s := range texts {
		wantReply(t, "P17.1: Bulks of one", reply.Bulks(s), array(api.Reply{Kind: api.Bulk, S: s}))
	}
	for n := range 300 {
		l, want := make([]string, n), make([]api.Reply, n)
		for i := range n {
			l[i] = texts[(i*7+n)%len(texts)]
			want[i] = api.Reply{Kind: api.Bulk, S: l[i]}
		}
		wantReply(t, "P17.1: Bulks of many", reply.Bulks(l...), array(want...))
	}
}

func TestBulksHasMemoryOfItsOwn(t *testing.T) {
	room := []string{"a", "b", "spare"}
	l := room[:2]
	first := reply.Bulks(l...)
	l[0] = "changed"
	wantReply(t, "R2: Bulks, when its list was changed later", first, array(a, b))
	if room[2] != "spare" {
		t.Error("R2: Bulks changed spare room")
	}
	l[0] = "a"
	second := reply.Bulks(l...)
	spoil(second.L)
	wantReply(t, "R2: Bulks, when another answer was changed", first, array(a, b))
	wantReply(t, "R4: Bulks again", reply.Bulks(l...), array(a, b))
}

// foreign is an error of others, round another one.
type foreign struct{ inner error }

func (e *foreign) Error() string { return "foreign" }
func (e *foreign) Unwrap() error { return e.inner }

// listError can not be compared: holding two of them against each other panics.
type listError []string

func (e listError) Error() string { return strings.Join(e, ",") }

// panicError panics whatever it is asked.
type panicError struct{}

func (e panicError) Error() string { panic("asked") }
func (e panicError) Unwrap() error { panic("asked") }

// codes are all of them, and numbers beside.
func codes() []api.Code {
	l := []api.Code{-1, -1 << 40, 26, 99, 1 << 40}
	for c := api.OK; c <= api.ErrOffset; c++ {
		l = append(l, c)
	}
	return l
}

func TestFailTellsTheCode(t *testing.T) {
	for _, cmd := range []string{"", "get", "GET", "client list", "a\x00\xff", "it's", strings.Repeat("x", 5000)} {
		for _, code := range codes() {
			want := failure(fault.Text(code, cmd))
			wrapped := error(code)
			for deep := range 5 {
				what := fmt.Sprintf("P17.1: Fail of code %d, %d deep", code, deep)
				wantReply(t, what, reply.Fail(cmd, wrapped), want)
				wrapped = &foreign{&fault.Fault{Cmd: "inner", Err: wrapped}}
			}
			if code != api.OK {
				wantReply(t, "P17.1: Fail of a fault", reply.Fail(cmd, fault.New("inner", code)), want)
				wantReply(t, "P17.1: Fail of a fault in a fault", reply.Fail(cmd, fault.Wrap("exec", fault.New("inner", code))), want)
				wantReply(t, "P17.1: Fail of joined errors", reply.Fail(cmd, errors.Join(errors.New("odd"), code)), want)
			}
		}
	}
}

func TestFailTellsTexts(t *testing.T) {
	for _, x := range []struct {
		cmd  string
		err  error
		want string
	}{
		{"get", nil, ""},
		{"", nil, ""},
		{"get", api.OK, ""},
		{"get", fault.New("get", api.OK), ""},
		{"get", fault.New("x", api.ErrArity), "ERR wrong number of arguments for 'get' command"},
		{"", api.ErrArity, "ERR wrong number of arguments for '' command"},
		{"get", fault.Wrap("exec", fault.New("set", api.ErrType)), "WRONGTYPE Operation against a key holding the wrong kind of value"},
		{"get", api.ErrForm, "ERR bad form"},
		{"get", errors.New("odd"), "ERR bad form"},
		{"get", &foreign{}, "ERR bad form"},
		{"get", listError{"a"}, "ERR bad form"},
		{"get", panicError{}, "ERR bad form"},
		{"get", &fault.Fault{Cmd: "x"}, "ERR bad form"},
	} {
		wantReply(t, fmt.Sprintf("P17.1: Fail(%q, ..)", x.cmd), reply.Fail(x.cmd, x.err), failure(x.want))
		wantReply(t, fmt.Sprintf("R4: Fail(%q, ..) again", x.cmd), reply.Fail(x.cmd, x.err), failure(x.want))
	}
}

func TestFailed(t *testing.T) {
	for _, kind := range allKinds() {
		for _, r := range []api.Reply{{Kind: kind}, {Kind: kind, S: "ERR bad form", N: 2, L: []api.Reply{failure("x")}}} {
			if got := reply.Failed(r); got != (kind == 2) {
				t.Errorf("P17.1: Failed(%s): %v", show(r), got)
			}
		}
	}
	for _, code := range codes() {
		if !reply.Failed(reply.Fail("get", code)) {
			t.Errorf("P17.1: Failed of Fail of code %d: false", code)
		}
	}
	for _, r := range []api.Reply{reply.OK(), reply.Int(2), reply.Bulk("ERR"), reply.Bulks("ERR"), array(failure("x")), {}} {
		if reply.Failed(r) {
			t.Errorf("P17.1: Failed(%s): true", show(r))
		}
	}
}
