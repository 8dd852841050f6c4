// Package fault: errors, and what they say: see doc/01-fault.md.
package fault

import (
	"errors"
	"strings"

	"tallboy/api"
)

// Fault is an error together with the command that it came of.
type Fault struct {
	Cmd string
	Err error
}

// Error tells the commands from the outermost one on, then what the innermost error says.
// Faults in faults are gone through in a loop: asking each one in turn would copy the text once a level.
func (f *Fault) Error() string {
	var b strings.Builder
	for f != nil {
		b.WriteString(f.Cmd)
		b.WriteString(": ")
		inner, ok := asFault(f.Err)
		if !ok {
			b.WriteString(says(f.Err))
		}
		f = inner
	}
	return b.String()
}

// Unwrap lets errors.Is and errors.As go through a fault.
func (f *Fault) Unwrap() error {
	if f == nil {
		return nil
	}
	return f.Err
}

// New makes a fault of a code; none of OK.
func New(cmd string, c api.Code) error {
	if c == api.OK {
		return nil
	}
	return &Fault{Cmd: cmd, Err: c}
}

// Wrap puts a command around an error; none where the error's code is OK.
func Wrap(cmd string, err error) error {
	if Code(err) == api.OK {
		return nil
	}
	return &Fault{Cmd: cmd, Err: err}
}

// Code tells the code in an error, ErrForm where there is none.
func Code(err error) api.Code {
	if err == nil {
		return api.OK
	}
	c, ok := findCode(err)
	if !ok {
		return api.ErrForm
	}
	return c
}

// Cmd tells the command of the outermost fault in an error.
func Cmd(err error) string {
	f, ok := findFault(err)
	if !ok || f == nil {
		return ""
	}
	return f.Cmd
}

// Depth counts the faults that stand one in the other from err on, up to the first error that is none.
func Depth(err error) int {
	n := 0
	for {
		f, ok := asFault(err)
		if !ok {
			return n
		}
		n++
		err = f.Unwrap()
	}
}

// asFault tells the fault that err itself is. What errors.As finds may lie deeper, so it is held against err.
func asFault(err error) (*Fault, bool) {
	f, ok := findFault(err)
	if !ok || err != error(f) {
		return nil, false
	}
	return f, true
}

// findFault answers none where a foreign error's own methods panic (those of a nil pointer, say): no call of this package may.
func findFault(err error) (found *Fault, ok bool) {
	defer func() { _ = recover() }()
	var f *Fault
	if !errors.As(err, &f) {
		return nil, false
	}
	return f, true
}

// findCode answers none where a foreign error's own methods panic, as findFault does.
func findCode(err error) (found api.Code, ok bool) {
	defer func() { _ = recover() }()
	var c api.Code
	if !errors.As(err, &c) {
		return api.OK, false
	}
	return c, true
}

// says answers nothing of nil, and of a foreign error that panics when it is asked.
func says(err error) (text string) {
	defer func() { _ = recover() }()
	if err == nil {
		return ""
	}
	return err.Error()
}
