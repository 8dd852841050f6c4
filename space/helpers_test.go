package space_test

import (
	"fmt"
	"maps"
	"math"
	"slices"
	"strings"
	"testing"

	"tallboy/api"
	"tallboy/space"
	"tallboy/value"
)

// latest is the greatest time that is promised anything.
const latest = 1 << 50

var (
	kinds       = []int{api.String, api.Hash, api.Set, api.List}
	collections = []int{api.Hash, api.Set, api.List}

	seeds = []uint64{0, 1, 7, 0xcbf29ce484222325, 1 << 63, math.MaxUint64}

	longest = strings.Repeat("k", api.MaxKey)
	tooLong = strings.Repeat("k", api.MaxKey+1)

	// picks are numbers for Pick at each bound.
	picks = []uint64{0, 1, 2, 3, 99, 1<<31 - 1, 1 << 32, 1<<63 - 1, 1 << 63, math.MaxUint64 - 1, math.MaxUint64}
)

// odd are keys of any bytes, from none to as many as there may be.
func odd() []string {
	return []string{"", "a", "b", "ab", "A", "a ", "0", "\x00", "\x00\x00", "\xff", "\xff\xfe\x80", "a\x00", "ä", "key\r\n", longest[1:], longest}
}

// names are so many keys, each another one.
func names(n int) []string {
	var l []string
	for i := range n {
		l = append(l, fmt.Sprint("k", i))
	}
	return l
}

// made is a value of this Kind with these texts.
func made(kind int, texts ...string) *value.Value {
	v := value.New(kind, 1, api.Limits{Entries: 3, Text: 8})
	for _, s := range texts {
		add(v, s)
	}
	return v
}

// add lets v have one more text.
func add(v *value.Value, s string) {
	switch v.Kind {
	case api.String:
		v.Text += s
	case api.Hash:
		v.Hash.Set(s, s)
	case api.Set:
		v.Set.Add(s)
	case api.List:
		v.List.Right(s)
	}
}

// drop takes a text of v's away.
func drop(v *value.Value, s string) {
	switch v.Kind {
	case api.Hash:
		v.Hash.Delete(s)
	case api.Set:
		v.Set.Remove(s)
	case api.List:
		v.List.Remove(s, 0)
	}
}

// held is what the model knows of a key that is there.
type held struct {
	v     *value.Value
	at    int64
	timed bool
}

// model is a space as the chapter's words tell it, in Go's own maps: each call goes through all keys for such as have to go.
type model struct {
	keys    map[string]held
	changes map[string]int
}

// pass takes all keys away whose time has come.
func (m *model) pass(now int64) {
	for k, h := range m.keys {
		if h.timed && now >= h.at {
			m.take(k)
		}
	}
}

// take takes a key away that is there.
func (m *model) take(k string) {
	delete(m.keys, k)
	m.changes[k]++
}

// set lets a key have all this.
func (m *model) set(k string, h held) {
	m.keys[k] = h
	m.changes[k]++
}

// seen is what Version told, and how often the model knew the key changed then.
type seen struct {
	version uint64
	changes int
}

// both is a space with its model: each call is asked of both, and the answers are held against each other.
type both struct {
	*testing.T
	s    *space.Space
	m    *model
	told map[string]seen
}

// empty is a space without keys, and its model.
func empty(t *testing.T, c api.Config) *both {
	return &both{t, space.New(c), &model{map[string]held{}, map[string]int{}}, map[string]seen{}}
}

// begun is an empty one of some seed.
func begun(t *testing.T) *both {
	return empty(t, api.Config{Seed: 5, Limits: api.Limits{Entries: 4, Text: 9}})
}

// want tells what is not as the chapter says.
func (b *both) want(ok bool, form string, args ...any) {
	b.Helper()
	if !ok {
		b.Fatalf(form, args...)
	}
}

func (b *both) get(k string, now int64) *value.Value {
	b.Helper()
	b.m.pass(now)
	v := b.s.Get(k, now)
	b.want(v == b.m.keys[k].v, "P16.1: Get(%.20q, %d): %p, want %p", k, now, v, b.m.keys[k].v)
	return v
}

func (b *both) put(k string, v *value.Value, now int64) {
	b.Helper()
	want := api.OK
	if len(k) > 4096 {
		want = api.ErrLong
	}
	if why := b.s.Put(k, v, now); why != want {
		b.Fatalf("P16.1: Put(%.20q, %d): %v, want %v", k, now, why, want)
	}
	b.m.pass(now)
	_, there := b.m.keys[k]
	switch nothing := v == nil || v.Kind != api.String && v.Len() == 0; {
	case want != api.OK:
	case !nothing:
		b.m.set(k, held{v: v})
	case there:
		b.m.take(k)
	}
}

// text puts a String.
func (b *both) text(k, s string, now int64) {
	b.Helper()
	b.put(k, value.OfText(s), now)
}

// timed puts a String with an expiry.
func (b *both) timed(k string, at, now int64) {
	b.Helper()
	b.text(k, k, now)
	b.expire(k, at, now)
}

func (b *both) delete(k string, now int64) bool {
	b.Helper()
	b.m.pass(now)
	_, there := b.m.keys[k]
	if there {
		b.m.take(k)
	}
	b.want(b.s.Delete(k, now) == there, "P16.1: Delete(%.20q, %d), there: %t", k, now, there)
	return there
}

func (b *both) touch(k string, now int64) {
	b.Helper()
	b.m.pass(now)
	if h, there := b.m.keys[k]; there && h.v.Kind != api.String && h.v.Len() == 0 {
		b.m.take(k)
	} else if there {
		b.m.set(k, h)
	}
	b.s.Touch(k, now)
}

func (b *both) expire(k string, at, now int64) bool {
	b.Helper()
	b.m.pass(now)
	h, there := b.m.keys[k]
	if there {
		b.m.set(k, held{h.v, at, true})
		if at <= now {
			delete(b.m.keys, k)
		}
	}
	b.want(b.s.Expire(k, at, now) == there, "P16.1: Expire(%.20q, %d, %d), there: %t", k, at, now, there)
	return there
}

func (b *both) expiry(k string, now int64) (int64, bool) {
	b.Helper()
	b.m.pass(now)
	h := b.m.keys[k]
	at, ok := b.s.Expiry(k, now)
	b.want(at == h.at && ok == h.timed, "P16.1: Expiry(%.20q, %d): %d, %t, want %d, %t", k, now, at, ok, h.at, h.timed)
	return at, ok
}

func (b *both) persist(k string, now int64) bool {
	b.Helper()
	b.m.pass(now)
	h := b.m.keys[k]
	if h.timed {
		b.m.set(k, held{v: h.v})
	}
	b.want(b.s.Persist(k, now) == h.timed, "P16.1: Persist(%.20q, %d), timed: %t", k, now, h.timed)
	return h.timed
}

func (b *both) rename(from, to string, now int64) bool {
	b.Helper()
	b.m.pass(now)
	h, there := b.m.keys[from]
	want := there && len(to) <= 4096
	if want && from != to {
		b.m.take(from)
	}
	if want {
		b.m.set(to, h)
	}
	b.want(b.s.Rename(from, to, now) == want, "P16.2: Rename(%.20q, %.20q, %d), want %t", from, to, now, want)
	return want
}

func (b *both) copy(from, to string, now int64) (bool, api.Code) {
	b.Helper()
	b.m.pass(now)
	h, there := b.m.keys[from]
	_, taken := b.m.keys[to]
	want, refused := there && !taken && from != to, api.OK
	if want && len(to) > 4096 {
		want, refused = false, api.ErrLong
	}
	ok, why := b.s.Copy(from, to, now)
	b.want(ok == want && why == refused, "P16.2: Copy(%.20q, %.20q, %d): %t, %v, want %t, %v", from, to, now, ok, why, want, refused)
	if ok {
		// A copy is new, so the model can learn it of the space alone.
		v := b.s.Get(to, now)
		b.want(v != nil && v != h.v && value.Same(v, h.v), "P16.2: Copy(%.20q, %.20q, %d): %p of %p", from, to, now, v, h.v)
		b.m.set(to, held{v, h.at, h.timed})
	}
	return ok, why
}

func (b *both) flush() {
	b.Helper()
	b.s.Flush()
	for _, k := range slices.Collect(maps.Keys(b.m.keys)) {
		b.m.take(k)
	}
}

func (b *both) len(now int64) int {
	b.Helper()
	b.m.pass(now)
	n := b.s.Len(now)
	b.want(n == len(b.m.keys), "P16.2: Len(%d): %d, want %d", now, n, len(b.m.keys))
	b.want(b.s.Held() >= n, "P16.4: Held: %d behind Len: %d", b.s.Held(), n)
	return n
}

func (b *both) keys(now int64) []string {
	b.Helper()
	b.m.pass(now)
	l := b.s.Keys(now)
	got := slices.Sorted(slices.Values(l))
	b.want(slices.Equal(got, slices.Sorted(maps.Keys(b.m.keys))), "P16.2: Keys(%d): %.200q, want %.200q", now, got, slices.Sorted(maps.Keys(b.m.keys)))
	return l
}

func (b *both) version(k string, now int64) uint64 {
	b.Helper()
	b.m.pass(now)
	is := seen{b.s.Version(k, now), b.m.changes[k]}
	was := b.told[k]
	b.want((is.version > 0) == (is.changes > 0), "P16.3: Version(%.20q, %d): %d behind %d changes", k, now, is.version, is.changes)
	b.want(is.version >= was.version && (is.version > was.version) == (is.changes > was.changes), "P16.3: Version(%.20q, %d): %d, was %d, behind %d changes", k, now, is.version, was.version, is.changes-was.changes)
	b.told[k] = is
	return is.version
}

func (b *both) cycle(n int, now int64) int {
	b.Helper()
	was := b.s.Held()
	got := b.s.Cycle(n, now)
	b.want(got >= 0 && got <= max(n, 0) && b.s.Held() == was-got, "P16.4: Cycle(%d, %d): %d, of %d held %d are left", n, now, got, was, b.s.Held())
	b.m.pass(now)
	b.want(b.s.Held() >= len(b.m.keys), "P16.4: Cycle(%d, %d): %d held, %d are there", n, now, b.s.Held(), len(b.m.keys))
	b.want(n < was || b.s.Held() == len(b.m.keys), "P16.4: Cycle(%d, %d) of %d: %d held, %d are there", n, now, was, b.s.Held(), len(b.m.keys))
	return got
}

func (b *both) scan(c uint64, count int, now int64) ([]string, uint64) {
	b.Helper()
	b.m.pass(now)
	l, next := b.s.Scan(c, count, now)
	for i, k := range l {
		_, there := b.m.keys[k]
		b.want(there && !slices.Contains(l[:i], k), "P16.4: Scan(%d, %d, %d): %.20q is not there, or told twice", c, count, now, k)
	}
	return l, next
}

func (b *both) pick(n uint64, now int64) (string, bool) {
	b.Helper()
	b.m.pass(now)
	k, ok := b.s.Pick(n, now)
	_, there := b.m.keys[k]
	b.want(ok == (len(b.m.keys) > 0) && there == ok && (ok || k == ""), "P16.4: Pick(%d, %d): %.20q, %t of %d", n, now, k, ok, len(b.m.keys))
	return k, ok
}

// all asks for everything, of these keys and of those that are there.
func (b *both) all(now int64, keys ...string) {
	b.Helper()
	for _, k := range append(slices.Collect(maps.Keys(b.m.keys)), keys...) {
		b.get(k, now)
		b.expiry(k, now)
		b.version(k, now)
	}
	b.len(now)
	b.keys(now)
	for _, n := range picks {
		b.pick(n, now)
	}
	told := b.chain(7, func() int64 { return now })
	b.want(len(told) == len(b.m.keys), "P16.4: Scans told %d keys of %d", len(told), len(b.m.keys))
	b.want(b.s.Held() >= len(b.m.keys), "P16.4: Held: %d of %d", b.s.Held(), len(b.m.keys))
}

// chain is a chain of Scans from 0 back to 0, each at the time that is told ahead of it: how often each key was told.
func (b *both) chain(count int, time func() int64) map[string]int {
	b.Helper()
	told := map[string]int{}
	c := uint64(0)
	for step := 0; step == 0 || c != 0; step++ {
		b.want(step < 1<<16, "P16.4: a chain of Scans does not end")
		var l []string
		l, c = b.scan(c, count, time())
		for _, k := range l {
			told[k]++
		}
	}
	return told
}

// looks are the calls that change nothing, each by itself.
func looks() map[string]func(s *space.Space, key string, now int64) {
	return map[string]func(*space.Space, string, int64){
		"nothing":    func(*space.Space, string, int64) {},
		"Get":        func(s *space.Space, k string, now int64) { s.Get(k, now) },
		"Get else":   func(s *space.Space, k string, now int64) { s.Get(k+"?", now) },
		"Expiry":     func(s *space.Space, k string, now int64) { s.Expiry(k, now) },
		"Len":        func(s *space.Space, k string, now int64) { s.Len(now) },
		"Keys":       func(s *space.Space, k string, now int64) { s.Keys(now) },
		"Scan":       func(s *space.Space, k string, now int64) { s.Scan(0, 1000, now) },
		"Pick":       func(s *space.Space, k string, now int64) { s.Pick(3, now) },
		"Cycle":      func(s *space.Space, k string, now int64) { s.Cycle(1000, now) },
		"Cycle one":  func(s *space.Space, k string, now int64) { s.Cycle(1, now) },
		"Cycle none": func(s *space.Space, k string, now int64) { s.Cycle(0, now) },
		"Version":    func(s *space.Space, k string, now int64) { s.Version(k, now) },
		"Held":       func(s *space.Space, k string, now int64) { s.Held() },
		"Config":     func(s *space.Space, k string, now int64) { s.Config() },
		"Put long":   func(s *space.Space, k string, now int64) { s.Put(tooLong, value.OfText("x"), now) },
		"Delete":     func(s *space.Space, k string, now int64) { s.Delete(k+"?", now) },
		"Touch":      func(s *space.Space, k string, now int64) { s.Touch(k+"?", now) },
		"Expire":     func(s *space.Space, k string, now int64) { s.Expire(k+"?", now+5, now) },
		"Persist":    func(s *space.Space, k string, now int64) { s.Persist(k+"?", now) },
		"Rename":     func(s *space.Space, k string, now int64) { s.Rename(k+"?", k, now) },
		"Rename far": func(s *space.Space, k string, now int64) { s.Rename(k, tooLong, now) },
		"Copy":       func(s *space.Space, k string, now int64) { s.Copy(k+"?", k, now) },
		"Copy far":   func(s *space.Space, k string, now int64) { s.Copy(k, tooLong, now) },
		"Copy own":   func(s *space.Space, k string, now int64) { s.Copy(k, k, now) },
		"Put none":   func(s *space.Space, k string, now int64) { s.Put(k+"?", nil, now) },
	}
}
