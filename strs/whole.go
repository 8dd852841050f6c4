package strs

import (
	"errors"

	"tallboy/api"
	"tallboy/num"
	"tallboy/reply"
	"tallboy/text"
)

// null is what is told of a text that is not there.
func null() api.Reply {
	return api.Reply{Kind: api.Null}
}

// get tells what key has.
func (c *call) get(key string) (api.Reply, error) {
	s, there, err := c.text(key)
	switch {
	case err != nil:
		return api.Reply{}, err
	case !there:
		return null(), nil
	}
	return reply.Bulk(s), nil
}

// getEach is never refused: a key that get can't be asked for is told as one that is not there.
func (c *call) getEach() (api.Reply, error) {
	var l []api.Reply
	for _, key := range c.Args[1:] {
		r, err := c.get(key)
		if errors.Is(err, api.ErrType) {
			r = null()
		}
		l = append(l, r)
	}
	return api.Reply{Kind: api.Array, L: l}, nil
}

// putEach lets each key have the text behind it.
func (c *call) putEach() (api.Reply, error) {
	for i := 1; i < len(c.Args); i += 2 {
		c.put(c.Args[i], c.Args[i+1])
	}
	return reply.OK(), nil
}

// setNew lets a key have a text, if it has nothing, of whatever Kind.
func (c *call) setNew() (api.Reply, error) {
	if c.isThere(c.Args[1]) {
		return reply.Int(0), nil
	}
	c.put(c.Args[1], c.Args[2])
	return reply.Int(1), nil
}

// getAndPut tells what a key had ahead of its new text.
func (c *call) getAndPut() (api.Reply, error) {
	was, err := c.get(c.Args[1])
	if err != nil {
		return api.Reply{}, err
	}
	c.put(c.Args[1], c.Args[2])
	return was, nil
}

// getAndDelete tells what a key had, and takes it away.
func (c *call) getAndDelete() (api.Reply, error) {
	was, err := c.get(c.Args[1])
	if err != nil {
		return api.Reply{}, err
	}
	c.Space.Delete(c.Args[1], c.Now)
	return was, nil
}

// count lets a key's number go up, or down, by 1 or by what the last word says.
func (c *call) count(down bool) (api.Reply, error) {
	by, err := c.step(down)
	if err != nil {
		return api.Reply{}, err
	}
	return c.change(c.Args[1], func(s string) (string, int64, api.Code) {
		return text.Incr(s, by)
	})
}

// step is by how much a key's number goes up, below 0 where it goes down.
func (c *call) step(down bool) (int64, error) {
	by := int64(1)
	if len(c.Args) > 2 {
		n, err := c.Number(c.Args[2])
		if err != nil {
			return 0, err
		}
		by = n
	}
	if !down {
		return by, nil
	}
	by, ok := num.Negate(by)
	if !ok {
		return 0, c.Because(api.ErrOver)
	}
	return by, nil
}
