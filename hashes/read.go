package hashes

import (
	"tallboy/api"
	"tallboy/hmap"
	"tallboy/num"
	"tallboy/reply"
)

// tell does a command that asks what a hash has.
func (c *call) tell(m *hmap.Map) (api.Reply, error) {
	switch c.Name {
	case "hget":
		return get(m, c.words()[0]), nil
	case "hmget":
		return getEach(m, c.words()), nil
	case "hexists":
		return exists(m, c.words()[0]), nil
	case "hstrlen":
		return length(m, c.words()[0]), nil
	case "hlen":
		return reply.Int(int64(m.Len())), nil
	case "hkeys":
		return allFields(m), nil
	case "hvals":
		return allValues(m), nil
	case "hgetall":
		return allPairs(m.All()), nil
	}
	return c.Refuse(api.ErrUnknown)
}

// get tells the value of a field.
func get(m *hmap.Map, field string) api.Reply {
	s, there := m.Get(field)
	if !there {
		return api.Reply{Kind: api.Null}
	}
	return reply.Bulk(s)
}

// getEach tells the value of each field.
func getEach(m *hmap.Map, fields []string) api.Reply {
	r := api.Reply{Kind: api.Array}
	for _, f := range fields {
		r.L = append(r.L, get(m, f))
	}
	return r
}

// exists tells 1 of a field that is there.
func exists(m *hmap.Map, field string) api.Reply {
	if has(m, field) {
		return reply.Int(1)
	}
	return reply.Int(0)
}

// length tells how many bytes the value of a field has; a field that is not there has the empty one.
func length(m *hmap.Map, field string) api.Reply {
	s, _ := m.Get(field)
	return reply.Int(int64(len(s)))
}

// allFields tells them in any order.
func allFields(m *hmap.Map) api.Reply {
	r := api.Reply{Kind: api.SetReply}
	for _, p := range m.All() {
		r.L = append(r.L, reply.Bulk(p.Field))
	}
	return r
}

// allValues tells them in any order, one that several fields have as often as they have it.
func allValues(m *hmap.Map) api.Reply {
	r := api.Reply{Kind: api.SetReply}
	for _, p := range m.All() {
		r.L = append(r.L, reply.Bulk(p.Value))
	}
	return r
}

// allPairs tells each field of a list ahead of its value.
func allPairs(l []api.Pair) api.Reply {
	r := api.Reply{Kind: api.MapReply}
	for _, p := range l {
		r.L = append(r.L, reply.Bulk(p.Field), reply.Bulk(p.Value))
	}
	return r
}

// scan tells the pairs of a piece of the hash, and the cursor to go on with.
func (c *call) scan() (api.Reply, error) {
	asked, err := c.Scan(c.words()[0], c.words()[1:])
	if err != nil {
		return api.Reply{}, err
	}
	v, err := c.hash()
	if err != nil {
		return api.Reply{}, err
	}
	found, next := v.Hash.Scan(asked.Cursor, asked.Count)
	var told []api.Pair
	for _, p := range found {
		if asked.Matches(p.Field) {
			told = append(told, p)
		}
	}
	return api.Reply{Kind: api.Array, L: []api.Reply{reply.Bulk(num.Unsigned(next)), allPairs(told)}}, nil
}
