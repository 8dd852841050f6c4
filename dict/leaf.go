package dict

import (
	"slices"

	"tallboy/api"
	"tallboy/table"
)

// leaf is what places of the directory lead to: all keys that have the same lowest bits, own of them. They lie in one table, and where the directory can get no deeper, in those that stand behind it too.
type leaf[V any] struct {
	own    int
	tables []*table.Table[V]
}

// newLeaf has what this table has.
func newLeaf[V any](own int, t *table.Table[V]) *leaf[V] {
	return &leaf[V]{own: own, tables: []*table.Table[V]{t}}
}

// holder is the table that has key, nil if none does.
func (l *leaf[V]) holder(key string) *table.Table[V] {
	for _, t := range l.tables {
		if _, ok := t.Get(key); ok {
			return t
		}
	}
	return nil
}

// splits tells whether a new key asks for a split first.
func (l *leaf[V]) splits() bool {
	return l.own < api.MaxDepth && l.size() >= api.Room
}

// add lays a key that is not there into the first table that has room, or into a new one behind them all.
func (l *leaf[V]) add(seed uint64, key string, v V) {
	for _, t := range l.tables {
		if t.Put(key, v) == api.OK {
			return
		}
	}
	t := table.New[V](seed)
	t.Put(key, v)
	l.tables = append(l.tables, t)
}

// remove takes key away, and tells whether it was there. A table that is left with nothing goes too, unless it is the last one.
func (l *leaf[V]) remove(key string) bool {
	for i, t := range l.tables {
		if !t.Delete(key) {
			continue
		}
		if t.Len() == 0 && len(l.tables) > 1 {
			l.tables = slices.Delete(l.tables, i, i+1)
		}
		return true
	}
	return false
}

// size is how many keys there are.
func (l *leaf[V]) size() int {
	n := 0
	for _, t := range l.tables {
		n += t.Len()
	}
	return n
}

// keys has the keys, table by table.
func (l *leaf[V]) keys() []string {
	var keys []string
	for _, t := range l.tables {
		keys = append(keys, t.Keys()...)
	}
	return keys
}
