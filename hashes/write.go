package hashes

import (
	"tallboy/api"
	"tallboy/hmap"
	"tallboy/num"
	"tallboy/reply"
	"tallboy/value"
)

// set lets fields have values, and tells how many fields are new.
func (c *call) set(v *value.Value) (api.Reply, error) {
	return reply.Int(c.put(v, c.words()...)), nil
}

// setNew lets a field have a value, unless it has one.
func (c *call) setNew(v *value.Value) (api.Reply, error) {
	if has(v.Hash, c.words()[0]) {
		return reply.Int(0), nil
	}
	return reply.Int(c.put(v, c.words()...)), nil
}

// remove takes fields away, and tells how many were there.
func (c *call) remove(v *value.Value) (api.Reply, error) {
	gone := int64(0)
	for _, f := range c.words() {
		if v.Hash.Delete(f) {
			gone++
		}
	}
	if gone > 0 {
		c.keep(v)
	}
	return reply.Int(gone), nil
}

// add lets a field's number go up by another one.
func (c *call) add() (api.Reply, error) {
	f := c.words()[0]
	by, err := c.Number(c.words()[1])
	if err != nil {
		return api.Reply{}, err
	}
	v, err := c.hash()
	if err != nil {
		return api.Reply{}, err
	}
	n, ok := numberOf(v.Hash, f)
	if !ok {
		return c.Refuse(api.ErrHashInt)
	}
	sum, ok := num.Add(n, by)
	if !ok {
		return c.Refuse(api.ErrOver)
	}
	c.put(v, f, num.Format(sum))
	return reply.Int(sum), nil
}

// put lets each field have the value behind it, in order, and tells how many fields are new. A hash of the same pairs as before is not kept, so that who watches its key is not told of a change; a field may come twice, and have its old value again at the end.
func (c *call) put(v *value.Value, pairs ...string) int64 {
	fields := fieldsOf(pairs)
	was := getEach(v.Hash, fields)
	added := int64(0)
	for i, f := range fields {
		// It can't be refused: cmd.Check lets no word through that is longer than a field or a value may be.
		if isNew, _ := v.Hash.Set(f, pairs[2*i+1]); isNew {
			added++
		}
	}
	if !reply.Same(was, getEach(v.Hash, fields)) {
		c.keep(v)
	}
	return added
}

// numberOf is what a field counts as: 0 if it is not there, but no number if it has an empty value.
func numberOf(m *hmap.Map, field string) (int64, bool) {
	s, there := m.Get(field)
	if !there {
		return 0, true
	}
	return num.Parse(s)
}

// fieldsOf are the words that have a value behind them.
func fieldsOf(pairs []string) []string {
	var l []string
	for i := 0; i < len(pairs); i += 2 {
		l = append(l, pairs[i])
	}
	return l
}

// has tells whether a field is there.
func has(m *hmap.Map, field string) bool {
	_, there := m.Get(field)
	return there
}
