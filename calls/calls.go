// Package calls has what the commands of all groups do alike: how a request comes to be done, how its words are read, what its keys have, and how a refusal is told.
package calls

import (
	"tallboy/api"
	"tallboy/cmd"
	"tallboy/fault"
	"tallboy/num"
	"tallboy/space"
	"tallboy/value"
)

// Call is one command that is done: its name in small letters, and the words that it came with.
type Call struct {
	Space *space.Space
	Now   int64
	Name  string
	Args  []string
}

// New makes a call of a request, unless it is one that can't be meant, or that another group does.
func New(s *space.Space, now int64, group int, args []string) (*Call, error) {
	command, err := cmd.Check(args)
	if err != nil {
		return nil, err
	}
	c := &Call{Space: s, Now: now, Name: command.Name, Args: args}
	switch {
	case command.Group != group:
		return nil, c.Because(api.ErrUnknown)
	case s == nil:
		return nil, c.Because(api.ErrForm)
	}
	return c, nil
}

// Refuse is what a command answers that does nothing, and why.
func (c *Call) Refuse(why api.Code) (api.Reply, error) {
	return api.Reply{}, c.Because(why)
}

// Because is the error of a refusal, nil of OK.
func (c *Call) Because(why api.Code) error {
	return fault.New(c.Name, why)
}

// Number reads a word.
func (c *Call) Number(word string) (int64, error) {
	n, ok := num.Parse(word)
	if !ok {
		return 0, c.Because(api.ErrInt)
	}
	return n, nil
}

// Value is the space's own value of key, nil if it is not there. One of another Kind is refused.
func (c *Call) Value(key string, kind int) (*value.Value, error) {
	v := c.Space.Get(key, c.Now)
	if err := v.Is(kind); err != nil {
		// A value knows of no command, so what it says is told anew.
		return nil, c.Because(fault.Code(err))
	}
	return v, nil
}

// ValueOrNew is Value, but of a key that is not there an empty one, of which the space does not know until it is kept.
func (c *Call) ValueOrNew(key string, kind int) (*value.Value, error) {
	v, err := c.Value(key, kind)
	if v != nil || err != nil {
		return v, err
	}
	config := c.Space.Config()
	return value.New(kind, config.Seed, config.Limits), nil
}

// Keep lets key have a value that ValueOrNew told and that is another one since, with the expiry that it had. One that was left empty takes its key away.
func (c *Call) Keep(key string, v *value.Value) {
	if c.Space.Get(key, c.Now) == nil {
		// It can't be refused: cmd.Check lets no word through that is longer than a key may be.
		c.Space.Put(key, v, c.Now)
		return
	}
	c.Space.Touch(key, c.Now)
}
