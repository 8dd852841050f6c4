package reply_test

import (
	"encoding/binary"
	"math/rand"
	"slices"
	"testing"

	"tallboy/api"
	"tallboy/reply"
)

// readAlike is a second reading of the chapter: parts are tried against each other, one to one.
func readAlike(x, y api.Reply) bool {
	if x.Kind != y.Kind {
		return false
	}
	switch x.Kind {
	case api.Simple, api.Error, api.Bulk:
		return x.S == y.S
	case api.Int:
		return x.N == y.N
	case api.Array:
		return slices.EqualFunc(x.L, y.L, readAlike)
	case api.SetReply:
		return matched(groups(x.L, 1), groups(y.L, 1))
	case api.MapReply:
		n, m := len(x.L)/2*2, len(y.L)/2*2
		return matched(groups(x.L[:n], 2), groups(y.L[:m], 2)) && slices.EqualFunc(x.L[n:], y.L[m:], readAlike)
	}
	return true
}

// groups cuts a list into lists of n.
func groups(l []api.Reply, n int) [][]api.Reply {
	return slices.Collect(slices.Chunk(l, n))
}

// matched tries every way to give each of the ones one of the others.
func matched(l, others [][]api.Reply) bool {
	if len(l) == 0 || len(others) == 0 {
		return len(l) == len(others)
	}
	for i, o := range others {
		if slices.EqualFunc(l[0], o, readAlike) && matched(l[1:], slices.Concat(others[:i], others[i+1:])) {
			return true
		}
	}
	return false
}

// key is a text of what counts of r. Keys rise as the replies do: a byte ahead of each thing of a list tells that the list goes on.
func key(r api.Reply) string {
	n, s, l := int64(0), "", []api.Reply(nil)
	switch r.Kind {
	case api.Simple, api.Error, api.Bulk:
		s = r.S
	case api.Int:
		n = r.N
	case api.Array, api.MapReply, api.SetReply:
		l = r.L
	}
	k := binary.BigEndian.AppendUint64(nil, uint64(r.Kind)^1<<63)
	k = binary.BigEndian.AppendUint64(k, uint64(n)^1<<63)
	for _, x := range []byte(s) {
		k = append(k, 1, x)
	}
	k = append(k, 0)
	for _, p := range l {
		k = append(append(k, 1), key(p)...)
	}
	return string(append(k, 0))
}

// readSorted is a second reading of Sorted: a list is put together one by one, each ahead of the first whose key is above its own.
func readSorted(r api.Reply) api.Reply {
	out := api.Reply{Kind: r.Kind}
	step := 0
	switch r.Kind {
	case api.Simple, api.Error, api.Bulk:
		out.S = r.S
	case api.Int:
		out.N = r.N
	case api.Array, api.MapReply, api.SetReply:
		step = map[int]int{api.Array: len(r.L) + 1, api.MapReply: 2, api.SetReply: 1}[r.Kind]
	}
	var sorted [][]api.Reply
	var last []api.Reply
	for step > 0 && len(r.L) > 0 {
		var group []api.Reply
		for _, p := range r.L[:min(step, len(r.L))] {
			group = append(group, readSorted(p))
		}
		r.L = r.L[len(group):]
		if len(group) < step {
			last = group
			break
		}
		at := slices.IndexFunc(sorted, func(o []api.Reply) bool { return key(array(o...)) > key(array(group...)) })
		if at < 0 {
			at = len(sorted)
		}
		sorted = slices.Insert(sorted, at, group)
	}
	out.L = append(flat(sorted), last...)
	return out
}

// readDepth counts levels, each of which has the parts of the one above it.
func readDepth(r api.Reply) int {
	n := 0
	for level := []api.Reply{r}; len(level) > 0; n++ {
		var next []api.Reply
		for _, p := range level {
			if slices.Contains(withParts, p.Kind) {
				next = append(next, p.L...)
			}
		}
		level = next
	}
	return n
}

// draw makes a reply by chance, of few and short things, so that equal ones come often.
func draw(q *rand.Rand, deep int) api.Reply {
	r := api.Reply{Kind: 1 + q.Intn(9), S: texts[q.Intn(3)], N: int64(q.Intn(3) - 1)}
	if deep > 0 && q.Intn(2) == 0 {
		r.Kind = withParts[q.Intn(3)]
	}
	if q.Intn(20) == 0 {
		r.Kind = noKinds[q.Intn(len(noKinds))]
	}
	for range q.Intn(5) {
		if deep > 0 {
			r.L = append(r.L, draw(q, deep-1))
		}
	}
	return r
}

// turned is r with sets and maps in other orders.
func turned(q *rand.Rand, r api.Reply) api.Reply {
	l := r.L
	r.L = nil
	for _, p := range l {
		r.L = append(r.L, turned(q, p))
	}
	switch r.Kind {
	case api.SetReply:
		q.Shuffle(len(r.L), func(i, k int) { r.L[i], r.L[k] = r.L[k], r.L[i] })
	case api.MapReply:
		q.Shuffle(len(r.L)/2, func(i, k int) {
			r.L[2*i], r.L[2*i+1], r.L[2*k], r.L[2*k+1] = r.L[2*k], r.L[2*k+1], r.L[2*i], r.L[2*i+1]
		})
	}
	return r
}

// nudged is r with one thing changed, somewhere.
func nudged(q *rand.Rand, r api.Reply) api.Reply {
	r = clone(r)
	at := &r
	for len(at.L) > 0 && q.Intn(4) > 0 {
		at = &at.L[q.Intn(len(at.L))]
	}
	switch q.Intn(6) {
	case 0:
		at.Kind = 1 + q.Intn(9)
	case 1:
		at.S += "x"
	case 2:
		at.N++
	case 3:
		at.L = append(at.L, null)
	case 4:
		at.L = at.L[:len(at.L)/2]
	default:
		slices.Reverse(at.L)
	}
	return r
}

// wantRead holds two replies to the second reading.
func wantRead(t *testing.T, x, y api.Reply) {
	t.Helper()
	wantSame(t, x, y, key(x) == key(y))
	wantAlike(t, x, y, readAlike(x, y))
	wantSorted(t, x, readSorted(x))
	wantDepth(t, x, readDepth(x))
}

func TestPlays(t *testing.T) {
	q := rand.New(rand.NewSource(17))
	for range 6000 {
		x := draw(q, 1+q.Intn(3))
		wantRead(t, x, turned(q, x))
		wantRead(t, x, nudged(q, x))
		wantRead(t, nudged(q, x), turned(q, nudged(q, x)))
		wantRead(t, draw(q, 2), draw(q, 2))
		if t.Failed() {
			return
		}
	}
}

func TestEverySmallOne(t *testing.T) {
	var l []api.Reply
	inner := []api.Reply{one, a, b, set(), set(a), set(a, b), set(b, a), pairs(a, one)}
	for _, kind := range withParts {
		l = append(l, of(kind))
		for _, x := range inner {
			l = append(l, of(kind, x))
			for _, y := range inner[:5] {
				l = append(l, of(kind, x, y))
				for _, z := range inner[:2] {
					l = append(l, of(kind, x, y, z), of(kind, x, z, y, z))
				}
			}
		}
	}
	for _, x := range l {
		for _, y := range l {
			if reply.Same(x, y) != (key(x) == key(y)) || reply.Alike(x, y) != readAlike(x, y) {
				t.Fatalf("P17: %s, %s: Same %v, Alike %v", show(x), show(y), reply.Same(x, y), reply.Alike(x, y))
			}
		}
		wantSorted(t, x, readSorted(x))
		wantDepth(t, x, readDepth(x))
	}
}
