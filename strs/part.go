package strs

import (
	"tallboy/api"
	"tallboy/num"
	"tallboy/reply"
	"tallboy/text"
)

// mostBits is how many bits the longest text has.
const mostBits = 8 * api.MaxText

// length tells how many bytes a key has.
func (c *call) length() (api.Reply, error) {
	s, _, err := c.text(c.Args[1])
	if err != nil {
		return api.Reply{}, err
	}
	return reply.Int(int64(len(s))), nil
}

// lengthen puts a text behind what a key has. A key that is not there comes to be so, be the text an empty one.
func (c *call) lengthen() (api.Reply, error) {
	return c.change(c.Args[1], func(s string) (string, int64, api.Code) {
		s, why := text.Append(s, c.Args[2])
		return s, int64(len(s)), why
	})
}

// getRange tells a piece of what a key has.
func (c *call) getRange() (api.Reply, error) {
	a, b, err := c.span()
	if err != nil {
		return api.Reply{}, err
	}
	s, _, err := c.text(c.Args[1])
	if err != nil {
		return api.Reply{}, err
	}
	return reply.Bulk(text.Range(s, a, b)), nil
}

// setRange lays a text over what a key has. An empty one does nothing, so that a key that is not there does not come to be so.
func (c *call) setRange() (api.Reply, error) {
	at, err := c.Number(c.Args[2])
	if err != nil {
		return api.Reply{}, err
	}
	s, _, err := c.text(c.Args[1])
	if err != nil {
		return api.Reply{}, err
	}
	s, why := text.SetRange(s, at, c.Args[3])
	if why != api.OK {
		return c.Refuse(why)
	}
	if c.Args[3] != "" {
		c.keep(c.Args[1], s)
	}
	return reply.Int(int64(len(s))), nil
}

// getBit tells a bit of what a key has.
func (c *call) getBit() (api.Reply, error) {
	i, err := c.bit(c.Args[2], mostBits)
	if err != nil {
		return api.Reply{}, err
	}
	s, _, err := c.text(c.Args[1])
	if err != nil {
		return api.Reply{}, err
	}
	return reply.Int(int64(text.Bit(s, i))), nil
}

// setBit sets a bit of what a key has, and tells what it was.
func (c *call) setBit() (api.Reply, error) {
	i, err := c.bit(c.Args[2], mostBits)
	if err != nil {
		return api.Reply{}, err
	}
	b, err := c.bit(c.Args[3], 2)
	if err != nil {
		return api.Reply{}, err
	}
	return c.change(c.Args[1], func(s string) (string, int64, api.Code) {
		s, was, why := text.SetBit(s, i, int(b))
		return s, int64(was), why
	})
}

// countBits tells how many bits are 1, in all or in a span.
func (c *call) countBits() (api.Reply, error) {
	a, b := int64(0), int64(-1)
	switch len(c.Args) {
	case 3:
		return c.Refuse(api.ErrSyntax)
	case 4:
		var err error
		if a, b, err = c.span(); err != nil {
			return api.Reply{}, err
		}
	}
	s, _, err := c.text(c.Args[1])
	if err != nil {
		return api.Reply{}, err
	}
	return reply.Int(text.Count(s, a, b)), nil
}

// span reads the two numbers behind a key.
func (c *call) span() (a, b int64, err error) {
	if a, err = c.Number(c.Args[2]); err != nil {
		return 0, 0, err
	}
	if b, err = c.Number(c.Args[3]); err != nil {
		return 0, 0, err
	}
	return a, b, nil
}

// bit reads a bit's place, or a bit: a number from 0 to below an end.
func (c *call) bit(word string, end int64) (int64, error) {
	n, ok := num.Parse(word)
	if !ok || n < 0 || n >= end {
		return 0, c.Because(api.ErrBit)
	}
	return n, nil
}
