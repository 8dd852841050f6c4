package fault_test

import (
	"errors"
	"fmt"
	"strings"
	"testing"

	"tallboy/api"
	"tallboy/fault"
)

// listError can not be compared: holding two of them against each other panics.
type listError []string

func (e listError) Error() string { return strings.Join(e, ",") }

// pointerError panics in each of its methods where it is nil.
type pointerError struct{ inner error }

func (e *pointerError) Error() string { return "pointer " + e.inner.Error() }
func (e *pointerError) Unwrap() error { return e.inner }

// offering hands out a fault and a code by its own As, and wraps nothing.
type offering struct{}

func (offering) Error() string { return "offering" }
func (offering) As(target any) bool {
	switch p := target.(type) {
	case **fault.Fault:
		*p = &fault.Fault{Cmd: "offered"}
		return true
	case *api.Code:
		*p = api.ErrCursor
		return true
	}
	return false
}

// refusing scribbles on what its As is handed, and then finds nothing.
type refusing struct{}

func (refusing) Error() string { return "refusing" }
func (refusing) As(target any) bool {
	switch p := target.(type) {
	case **fault.Fault:
		*p = &fault.Fault{Cmd: "scribble"}
	case *api.Code:
		*p = api.ErrCursor
	}
	return false
}

// holder has a fault's methods without being one.
type holder struct{ *fault.Fault }

type asked struct {
	name string
	err  error
	text string
	code api.Code
	cmd  string
	deep int
}

func askAll(t *testing.T, cases []asked) {
	t.Helper()
	for _, c := range cases {
		t.Run(c.name, func(t *testing.T) {
			if f, ok := c.err.(*fault.Fault); ok && f.Error() != c.text {
				t.Errorf("P1.1: Error: %q, not %q", f.Error(), c.text)
			}
			if got := fault.Code(c.err); got != c.code {
				t.Errorf("P1.1: Code: %d, not %d", int(got), int(c.code))
			}
			if got := fault.Cmd(c.err); got != c.cmd {
				t.Errorf("P1.1: Cmd: %q, not %q", got, c.cmd)
			}
			if got := fault.Depth(c.err); got != c.deep {
				t.Errorf("P1.1: Depth: %d, not %d", got, c.deep)
			}
		})
	}
}

func TestFaultsOfThisProgram(t *testing.T) {
	get := fault.New("get", api.ErrType)
	exec := fault.Wrap("exec", get)
	said := api.ErrType.Error()
	var none *fault.Fault
	askAll(t, []asked{
		{"new", get, "get: " + said, api.ErrType, "get", 1},
		{"wrapped once", exec, "exec: get: " + said, api.ErrType, "exec", 2},
		{"wrapped twice", fault.Wrap("top", exec), "top: exec: get: " + said, api.ErrType, "top", 3},
		{"a bare code wrapped", fault.Wrap("set", api.ErrInt), "set: " + api.ErrInt.Error(), api.ErrInt, "set", 1},
		{"no name", fault.New("", api.ErrBit), ": " + api.ErrBit.Error(), api.ErrBit, "", 1},
		{"no name outside", fault.Wrap("", get), ": get: " + said, api.ErrType, "", 2},
		{"a name of odd bytes", fault.New("a'\x00\xff", api.ErrType), "a'\x00\xff: " + said, api.ErrType, "a'\x00\xff", 1},
		{"the first code", fault.New("c", api.ErrSyntax), "c: " + api.ErrSyntax.Error(), api.ErrSyntax, "c", 1},
		{"the last code", fault.New("c", api.ErrOffset), "c: " + api.ErrOffset.Error(), api.ErrOffset, "c", 1},
		{"beyond the last code", fault.New("c", api.ErrOffset+1), "c: " + (api.ErrOffset + 1).Error(), api.ErrOffset + 1, "c", 1},
		{"below the first code", fault.New("c", -1), "c: " + api.Code(-1).Error(), -1, "c", 1},
		{"a nil Err", &fault.Fault{Cmd: "c"}, "c: ", api.ErrForm, "c", 1},
		{"an empty fault", &fault.Fault{}, ": ", api.ErrForm, "", 1},
		{"a nil fault", none, "", api.ErrForm, "", 1},
		{"a nil fault wrapped", fault.Wrap("w", none), "w: ", api.ErrForm, "w", 2},
		{"a nil Err wrapped", fault.Wrap("w", &fault.Fault{Cmd: "c"}), "w: c: ", api.ErrForm, "w", 2},
		{"OK in a fault", &fault.Fault{Cmd: "c", Err: api.OK}, "c: " + api.OK.Error(), api.OK, "c", 1},
	})
}

func TestForeignErrors(t *testing.T) {
	get := fault.New("get", api.ErrType)
	far := fmt.Errorf("far: %w", get)
	other := errors.New("other")
	said := api.ErrType.Error()
	askAll(t, []asked{
		{"nil", nil, "", api.OK, "", 0},
		{"a bare code", api.ErrInt, "", api.ErrInt, "", 0},
		{"the bare OK", api.OK, "", api.OK, "", 0},
		{"no code in it", other, "", api.ErrForm, "", 0},
		{"no code in it, wrapped", fault.Wrap("s", other), "s: other", api.ErrForm, "s", 1},
		{"no code in it, wrapped twice", fault.Wrap("r", fault.Wrap("s", other)), "r: s: other", api.ErrForm, "r", 2},
		{"a fault inside", far, "", api.ErrType, "get", 0},
		{"a fault inside, wrapped", fault.Wrap("w", far), "w: far: get: " + said, api.ErrType, "w", 1},
		{"two faults around it", fault.Wrap("v", fault.Wrap("w", far)), "v: w: far: get: " + said, api.ErrType, "v", 2},
		{"a code inside", fmt.Errorf("x: %w", api.ErrFull), "", api.ErrFull, "", 0},
		{"joined", errors.Join(other, get, api.ErrFull), "", api.ErrType, "get", 0},
		{"joined, wrapped", fault.Wrap("w", errors.Join(api.ErrFull, get)), "w: " + api.ErrFull.Error() + "\nget: " + said, api.ErrFull, "w", 1},
		{"a list", listError{"a", "b"}, "", api.ErrForm, "", 0},
		{"a list, wrapped", fault.Wrap("w", listError{"a", "b"}), "w: a,b", api.ErrForm, "w", 1},
		{"not a fault, though it holds one", holder{&fault.Fault{Cmd: "h", Err: api.ErrLong}}, "", api.ErrLong, "", 0},
		{"a fault of its own As", offering{}, "", api.ErrCursor, "offered", 0},
		{"a fault of its own As, wrapped", fault.Wrap("w", offering{}), "w: offering", api.ErrCursor, "w", 1},
		{"an As that finds nothing", refusing{}, "", api.ErrForm, "", 0},
	})
}

func TestErrorsThatPanic(t *testing.T) {
	var nothing *pointerError
	askAll(t, []asked{
		{"nil pointer", nothing, "", api.ErrForm, "", 0},
		{"nil pointer wrapped", fault.Wrap("w", nothing), "w: ", api.ErrForm, "w", 1},
		{"nil pointer wrapped twice", fault.Wrap("v", fault.Wrap("w", nothing)), "v: w: ", api.ErrForm, "v", 2},
		{"pointer", fault.Wrap("w", &pointerError{api.ErrRange}), "w: pointer " + api.ErrRange.Error(), api.ErrRange, "w", 1},
	})
}

func TestNothingIsNil(t *testing.T) {
	for name, err := range map[string]error{
		"New of OK":                fault.New("get", api.OK),
		"New of OK, no name":       fault.New("", api.OK),
		"Wrap of nil":              fault.Wrap("get", nil),
		"Wrap of OK":               fault.Wrap("get", api.OK),
		"Wrap of OK inside":        fault.Wrap("get", fmt.Errorf("x: %w", api.OK)),
		"Wrap of OK in a fault":    fault.Wrap("get", &fault.Fault{Cmd: "c", Err: api.OK}),
		"Wrap of what New has nil": fault.Wrap("get", fault.New("c", api.OK)),
	} {
		if err != nil {
			t.Errorf("P1.1: %s: %#v", name, err)
		}
	}
}

func TestNewAndWrapMakeFaults(t *testing.T) {
	made, ok := fault.New("get", api.ErrType).(*fault.Fault)
	if !ok || made.Cmd != "get" || made.Err != error(api.ErrType) {
		t.Errorf("P1.1: New: %#v", made)
	}
	other := errors.New("other")
	for _, err := range []error{made, other, api.ErrInt, (*fault.Fault)(nil), &fault.Fault{}} {
		f, ok := fault.Wrap("exec", err).(*fault.Fault)
		if !ok || f.Cmd != "exec" || f.Err != err {
			t.Errorf("P1.1: Wrap of %#v: %#v", err, f)
		}
	}
	if made.Cmd != "get" || made.Err != error(api.ErrType) {
		t.Errorf("P1.1: Wrap changed what it wraps: %#v", made)
	}
	if a, b := fault.New("x", api.ErrInt), fault.New("x", api.ErrInt); a == b {
		t.Error("P1.1: two faults are one object")
	}
}

func TestUnwrap(t *testing.T) {
	var none *fault.Fault
	if none.Unwrap() != nil || (&fault.Fault{Cmd: "c"}).Unwrap() != nil {
		t.Error("P1.1: Unwrap of nothing")
	}
	get := fault.New("get", api.ErrType)
	exec := fault.Wrap("exec", get)
	if errors.Unwrap(exec) != get || errors.Unwrap(get) != error(api.ErrType) {
		t.Errorf("P1.1: Unwrap: %v, %v", errors.Unwrap(exec), errors.Unwrap(get))
	}
}

func TestIsAndAsGoThrough(t *testing.T) {
	own := errors.New("own")
	get := fault.New("get", api.ErrType)
	err := fault.Wrap("a", fmt.Errorf("%w, %w", own, fault.Wrap("b", get)))
	for _, target := range []error{own, get, api.ErrType, err} {
		if !errors.Is(err, target) {
			t.Errorf("P1.1: Is does not find %v", target)
		}
	}
	for _, target := range []error{api.ErrInt, api.OK, errors.New("own"), nil} {
		if errors.Is(err, target) {
			t.Errorf("P1.1: Is finds %v", target)
		}
	}
	var f *fault.Fault
	if !errors.As(err, &f) || f.Cmd != "a" {
		t.Errorf("P1.1: As: %#v", f)
	}
	var c api.Code
	if !errors.As(err, &c) || c != api.ErrType {
		t.Errorf("P1.1: As: %d", int(c))
	}
}

func TestManyFaults(t *testing.T) {
	const levels = 1 << 16
	err := fault.New("c", api.ErrNoKey)
	for range levels - 2 {
		err = &fault.Fault{Cmd: "c", Err: err}
	}
	err = fault.Wrap("c", err)
	if fault.Depth(err) != levels || fault.Code(err) != api.ErrNoKey || fault.Cmd(err) != "c" {
		t.Errorf("P1.1: %d, %d, %q", fault.Depth(err), int(fault.Code(err)), fault.Cmd(err))
	}
	if err.Error() != strings.Repeat("c: ", levels)+api.ErrNoKey.Error() {
		t.Error("P1.1: Error of many")
	}
}

func TestRunsAndExamples(t *testing.T) {
	if got := fault.Code(fault.Wrap("a", fault.New("b", api.ErrType))); got != api.ErrType {
		t.Errorf("the run: %d", int(got))
	}
	if got := fault.Wrap("a", nil); got != nil {
		t.Errorf("example 1: %v", got)
	}
	if got := fault.Text(api.ErrArity, "get"); got != "ERR wrong number of arguments for 'get' command" {
		t.Errorf("example 2: %q", got)
	}
}
