package hashes_test

import (
	"maps"
	"math/big"
	"regexp"
	"slices"
	"strconv"
	"strings"

	"tallboy/api"
	"tallboy/cmd"
	"tallboy/fault"
	"tallboy/glob"
)

// held is what the model knows of a key that is there; fields are those of a hash.
type held struct {
	kind   int
	fields map[string]string
	at     int64
	timed  bool
}

// model is a second reading of the chapter: hashes as maps, numbers without ends.
type model struct {
	now     int64
	keys    map[string]held
	changed map[string]int
}

// pass lets a time come, and the keys go that have come to their end.
func (m *model) pass(now int64) {
	m.now = now
	maps.DeleteFunc(m.keys, func(_ string, h held) bool { return h.timed && h.at <= now })
}

// edit lets a key have these fields, and keep its expiry.
func (m *model) edit(k string, fields map[string]string) {
	h, there := m.keys[k]
	if maps.Equal(h.fields, fields) {
		return
	}
	m.changed[k]++
	switch {
	case len(fields) == 0:
		delete(m.keys, k)
	case there:
		m.keys[k] = held{api.Hash, fields, h.at, h.timed}
	default:
		m.keys[k] = held{kind: api.Hash, fields: fields}
	}
}

// number is an Int.
func number(n int) api.Reply {
	return api.Reply{Kind: api.Int, N: int64(n)}
}

// one is a field's value, or Null.
func one(fields map[string]string, f string) api.Reply {
	if s, there := fields[f]; there {
		return api.Reply{Kind: api.Bulk, S: s}
	}
	return null
}

// whole reads a number by Go's own reading.
func whole(s string) (*big.Int, bool) {
	n, err := strconv.ParseInt(s, 10, 64)
	return big.NewInt(n), err == nil && strconv.FormatInt(n, 10) == s
}

// digits are a cursor's, at most twenty.
var digits = regexp.MustCompile(`^[0-9]{1,20}$`)

// scanWords are what a scan asks for, or why its words are refused; each is read once those ahead of it were right.
func scanWords(words []string) (pattern string, why api.Code) {
	n, ok := new(big.Int).SetString(words[0], 10)
	if !ok || !digits.MatchString(words[0]) || !n.IsUint64() {
		return "", api.ErrCursor
	}
	had := map[string]string{}
	for i := 1; i < len(words); i += 2 {
		w := strings.ToUpper(words[i])
		_, twice := had[w]
		if w != "MATCH" && w != "COUNT" || twice || i+1 == len(words) {
			return "", api.ErrSyntax
		}
		had[w] = words[i+1]
		if w == "COUNT" {
			switch n, ok := whole(words[i+1]); {
			case !ok:
				return "", api.ErrInt
			case n.Sign() <= 0:
				return "", api.ErrSyntax
			}
		}
	}
	pattern, there := had["MATCH"]
	if !there {
		pattern = "*"
	}
	return pattern, api.OK
}

// ask does a command that reads one hash.
func ask(name string, fields map[string]string, words []string) api.Reply {
	all := api.Reply{Kind: map[string]int{"hmget": api.Array, "hkeys": api.SetReply, "hvals": api.SetReply, "hgetall": api.MapReply}[name]}
	switch name {
	case "hget":
		return one(fields, words[0])
	case "hexists":
		if _, there := fields[words[0]]; !there {
			return number(0)
		}
		return number(1)
	case "hlen":
		return number(len(fields))
	case "hstrlen":
		return number(len(fields[words[0]]))
	case "hmget":
		for _, f := range words {
			all.L = append(all.L, one(fields, f))
		}
		return all
	}
	for f, s := range fields {
		if name != "hvals" {
			all.L = append(all.L, api.Reply{Kind: api.Bulk, S: f})
		}
		if name != "hkeys" {
			all.L = append(all.L, api.Reply{Kind: api.Bulk, S: s})
		}
	}
	return all
}

// matching is a MapReply of those fields that match.
func matching(fields map[string]string, pattern string) api.Reply {
	some := maps.Clone(fields)
	maps.DeleteFunc(some, func(f, _ string) bool { return !glob.Match(pattern, f) })
	return ask("hgetall", some, nil)
}

// change does a command that writes, to fields of its own.
func change(name string, fields map[string]string, words []string, by *big.Int) (api.Reply, api.Code) {
	before := len(fields)
	switch name {
	case "hset":
		for pair := range slices.Chunk(words, 2) {
			fields[pair[0]] = pair[1]
		}
	case "hsetnx":
		if _, there := fields[words[0]]; !there {
			fields[words[0]] = words[1]
		}
	case "hdel":
		for _, f := range words {
			delete(fields, f)
		}
		return number(before - len(fields)), api.OK
	case "hincrby":
		sum := by
		if s, there := fields[words[0]]; there {
			n, ok := whole(s)
			if !ok {
				return api.Reply{}, api.ErrHashInt
			}
			sum = n.Add(n, by)
		}
		if !sum.IsInt64() {
			return api.Reply{}, api.ErrOver
		}
		fields[words[0]] = sum.String()
		return number(int(sum.Int64())), api.OK
	}
	return number(len(fields) - before), api.OK
}

// do does a command. Of a scan it tells all that match, from whichever place it may go on.
func (m *model) do(args []string) (api.Reply, api.Code) {
	c, err := cmd.Check(args)
	if err != nil {
		return api.Reply{}, fault.Code(err)
	}
	name, k, words := c.Name, args[1], args[2:]
	var by *big.Int
	pattern, why := "", api.OK
	switch name {
	case "hincrby":
		n, ok := whole(words[1])
		if !ok {
			return api.Reply{}, api.ErrInt
		}
		by = n
	case "hscan":
		if pattern, why = scanWords(words); why != api.OK {
			return api.Reply{}, why
		}
	}
	h, there := m.keys[k]
	switch {
	case there && h.kind != api.Hash:
		return api.Reply{}, api.ErrType
	case name == "hscan":
		return matching(h.fields, pattern), api.OK
	case !c.Write:
		return ask(name, h.fields, words), api.OK
	}
	fields := maps.Clone(h.fields)
	if fields == nil {
		fields = map[string]string{}
	}
	r, why := change(name, fields, words, by)
	if why == api.OK {
		m.edit(k, fields)
	}
	return r, why
}
