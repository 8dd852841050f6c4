package strs_test

import (
	"math/big"
	"slices"
	"strconv"
	"strings"

	"tallboy/api"
	"tallboy/cmd"
	"tallboy/fault"
)

// held is what the model knows of a key that is there; a text has no other Kind.
type held struct {
	kind  int
	text  string
	at    int64
	timed bool
}

// model is a second reading of the chapter: keys as plain as they come, numbers without ends, bits as digits.
type model struct {
	now     int64
	keys    map[string]held
	changed map[string]int
}

// pass lets a time come, and the keys go that have come to their end.
func (m *model) pass(now int64) {
	m.now = now
	for k, h := range m.keys {
		if h.timed && h.at <= now {
			delete(m.keys, k)
			m.changed[k]++
		}
	}
}

// put lets a key have a text and no expiry.
func (m *model) put(k, s string) {
	m.keys[k] = held{kind: api.String, text: s}
	m.changed[k]++
}

// edit lets a key have a text, if it has another one, and keep its expiry.
func (m *model) edit(k, s string) {
	h, there := m.keys[k]
	if there && h.text == s {
		return
	}
	m.put(k, s)
	m.keys[k] = held{api.String, s, h.at, h.timed}
}

// told is what get tells of a key; another Kind is told as none.
func (m *model) told(k string) api.Reply {
	if h := m.keys[k]; h.kind == api.String {
		return api.Reply{Kind: api.Bulk, S: h.text}
	}
	return null
}

// whole reads a number by Go's own reading.
func whole(s string) (*big.Int, bool) {
	n, err := strconv.ParseInt(s, 10, 64)
	if err != nil || strconv.FormatInt(n, 10) != s {
		return nil, false
	}
	return big.NewInt(n), true
}

// setWords are what the chapter says of a set's options: which are there, or why they are refused.
func (m *model) setWords(words []string) (map[string]int, *big.Int, api.Code) {
	had := map[string]int{}
	number := ""
	for len(words) > 0 {
		w := strings.ToUpper(words[0])
		words = words[1:]
		sort := map[string]string{"NX": "only", "XX": "only", "GET": "get", "EX": "until", "PX": "until", "KEEPTTL": "until"}[w]
		had[sort]++
		had[w]++
		if sort == "" || had[sort] > 1 {
			return nil, nil, api.ErrSyntax
		}
		if w == "EX" || w == "PX" {
			if len(words) == 0 {
				return nil, nil, api.ErrSyntax
			}
			number, words = words[0], words[1:]
		}
	}
	if had["EX"]+had["PX"] == 0 {
		return had, nil, api.OK
	}
	n, ok := whole(number)
	if !ok {
		return nil, nil, api.ErrInt
	}
	if n.Sign() <= 0 {
		return nil, nil, api.ErrExpire
	}
	if had["EX"] > 0 {
		n.Mul(n, big.NewInt(1000))
	}
	n.Add(n, big.NewInt(m.now))
	if !n.IsInt64() {
		return nil, nil, api.ErrExpire
	}
	return had, n, api.OK
}

// set does a set.
func (m *model) set(k, s string, words []string) (api.Reply, api.Code) {
	had, at, why := m.setWords(words)
	if why != api.OK {
		return api.Reply{}, why
	}
	was, there := m.keys[k]
	if had["GET"] > 0 && there && was.kind != api.String {
		return api.Reply{}, api.ErrType
	}
	told := m.told(k)
	done := (had["NX"] == 0 || !there) && (had["XX"] == 0 || there)
	if done {
		m.put(k, s)
		switch {
		case at != nil:
			m.keys[k] = held{api.String, s, at.Int64(), true}
		case had["KEEPTTL"] > 0:
			m.keys[k] = held{api.String, s, was.at, was.timed}
		}
	}
	if had["GET"] > 0 {
		return told, api.OK
	}
	if !done {
		return null, api.OK
	}
	return api.Reply{Kind: api.Simple, S: "OK"}, api.OK
}

// numbers are those of a command's words, in their order, or why they are refused.
func numbers(name string, words []string) ([]*big.Int, api.Code) {
	var l []*big.Int
	places := map[string]int{"incrby": 1, "decrby": 1, "getrange": 2, "setrange": 1, "getbit": 1, "setbit": 2, "bitcount": 2}
	if name == "bitcount" && len(words) == 1 {
		return nil, api.ErrSyntax
	}
	for i, s := range words[:min(places[name], len(words))] {
		n, ok := whole(s)
		bit := strings.HasSuffix(name, "bit")
		ends := []int64{8 * 65536, 2}
		switch {
		case bit && (!ok || n.Sign() < 0 || n.Cmp(big.NewInt(ends[i])) >= 0):
			return nil, api.ErrBit
		case !ok:
			return nil, api.ErrInt
		}
		l = append(l, n)
	}
	if name == "decrby" {
		l[0].Neg(l[0])
		if !l[0].IsInt64() {
			return nil, api.ErrOver
		}
	}
	return l, api.OK
}

// piece is a span: the bytes whose places are in it, one by one.
func piece(s string, a, b *big.Int) string {
	n := big.NewInt(int64(len(s)))
	for _, end := range []*big.Int{a, b} {
		if end.Sign() < 0 {
			end.Add(end, n)
		}
	}
	var out []byte
	for i := range len(s) {
		if at := big.NewInt(int64(i)); at.Cmp(a) >= 0 && at.Cmp(b) <= 0 {
			out = append(out, s[i])
		}
	}
	return string(out)
}

// counted is a text that goes up as a number.
func (m *model) counted(k string, by *big.Int) (api.Reply, api.Code) {
	n, ok := whole(m.keys[k].text)
	if m.keys[k].text == "" {
		n, ok = new(big.Int), true
	}
	if !ok {
		return api.Reply{}, api.ErrInt
	}
	n.Add(n, by)
	if !n.IsInt64() {
		return api.Reply{}, api.ErrOver
	}
	m.edit(k, n.String())
	return api.Reply{Kind: api.Int, N: n.Int64()}, api.OK
}

// laid is a text over a piece of another one.
func (m *model) laid(k string, at *big.Int, s string) (api.Reply, api.Code) {
	was := m.keys[k].text
	switch {
	case at.Sign() < 0:
		return api.Reply{}, api.ErrOffset
	case s == "":
		return api.Reply{Kind: api.Int, N: int64(len(was))}, api.OK
	case new(big.Int).Add(at, big.NewInt(int64(len(s)))).Cmp(big.NewInt(65536)) > 0:
		return api.Reply{}, api.ErrLong
	}
	i := int(at.Int64())
	for len(was) < i {
		was += "\x00"
	}
	if i+len(s) < len(was) {
		was = was[:i] + s + was[i+len(s):]
	} else {
		was = was[:i] + s
	}
	m.edit(k, was)
	return api.Reply{Kind: api.Int, N: int64(len(was))}, api.OK
}

// bitSet is a bit in a row of digits.
func (m *model) bitSet(k string, at, b *big.Int) api.Reply {
	i := int(at.Int64())
	row := digits(m.keys[k].text)
	if need := (i/8 + 1) * 8; len(row) < need {
		row += strings.Repeat("0", need-len(row))
	}
	m.edit(k, asText(row[:i]+b.String()+row[i+1:]))
	return api.Reply{Kind: api.Int, N: int64(row[i] - '0')}
}

// whatever has the commands that ask for no Kind.
func (m *model) whatever(name string, words []string) (api.Reply, api.Code, bool) {
	k := words[0]
	switch name {
	case "set":
		r, why := m.set(k, words[1], words[2:])
		return r, why, true
	case "setnx":
		if _, there := m.keys[k]; there {
			return api.Reply{Kind: api.Int, N: 0}, api.OK, true
		}
		m.put(k, words[1])
		return api.Reply{Kind: api.Int, N: 1}, api.OK, true
	case "mget":
		r := api.Reply{Kind: api.Array}
		for _, k := range words {
			r.L = append(r.L, m.told(k))
		}
		return r, api.OK, true
	case "mset":
		for pair := range slices.Chunk(words, 2) {
			m.put(pair[0], pair[1])
		}
		return api.Reply{Kind: api.Simple, S: "OK"}, api.OK, true
	}
	return api.Reply{}, api.OK, false
}

// do does a command.
func (m *model) do(args []string) (api.Reply, api.Code) {
	c, err := cmd.Check(args)
	if err != nil {
		return api.Reply{}, fault.Code(err)
	}
	name, k, words := c.Name, args[1], args[2:]
	if r, why, done := m.whatever(name, args[1:]); done {
		return r, why
	}
	n, why := numbers(name, words)
	if why != api.OK {
		return api.Reply{}, why
	}
	h, there := m.keys[k]
	if there && h.kind != api.String {
		return api.Reply{}, api.ErrType
	}
	told := m.told(k)
	number := func(n int) (api.Reply, api.Code) { return api.Reply{Kind: api.Int, N: int64(n)}, api.OK }
	switch name {
	case "get":
	case "getset":
		m.put(k, words[0])
	case "getdel":
		if there {
			delete(m.keys, k)
			m.changed[k]++
		}
	case "append":
		if len(h.text)+len(words[0]) > 65536 {
			return api.Reply{}, api.ErrLong
		}
		m.edit(k, h.text+words[0])
		return number(len(h.text) + len(words[0]))
	case "strlen":
		return number(len(h.text))
	case "incr":
		return m.counted(k, big.NewInt(1))
	case "decr":
		return m.counted(k, big.NewInt(-1))
	case "incrby", "decrby":
		return m.counted(k, n[0])
	case "getrange":
		return api.Reply{Kind: api.Bulk, S: piece(h.text, n[0], n[1])}, api.OK
	case "setrange":
		return m.laid(k, n[0], words[1])
	case "getbit":
		row, i := digits(h.text), int(n[0].Int64())
		if i >= len(row) || row[i] == '0' {
			return number(0)
		}
		return number(1)
	case "setbit":
		return m.bitSet(k, n[0], n[1]), api.OK
	case "bitcount":
		s := h.text
		if len(n) == 2 {
			s = piece(s, n[0], n[1])
		}
		return number(strings.Count(digits(s), "1"))
	default:
		return api.Reply{}, api.ErrUnknown
	}
	return told, api.OK
}
