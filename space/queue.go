package space

import "tallboy/value"

// nowhere is the place of an item that stands in no queue.
const nowhere = -1

// item is what a key has that is held; until counts only while the item stands at a place.
type item struct {
	key   string
	value *value.Value
	until int64
	place int
}

// newItem has no value yet, and no expiry.
func newItem(key string) *item {
	return &item{key: key, place: nowhere}
}

// isTimed tells whether there is an expiry.
func (it *item) isTimed() bool {
	return it.place != nowhere
}

// queue has the items that have an expiry, so that the soonest is known at once: no item comes sooner than the one at half its place (places counted from 1).
type queue struct {
	items []*item
}

// first is the item whose time comes soonest.
func (q *queue) first() *item {
	return q.items[0]
}

// isDue tells whether the time of an item has come.
func (q *queue) isDue(now int64) bool {
	return len(q.items) > 0 && q.first().until <= now
}

// add gives an item that has none the expiry at.
func (q *queue) add(it *item, at int64) {
	it.until = at
	q.items = append(q.items, nil)
	q.rise(it, len(q.items)-1)
}

// drop takes the expiry of an item away, if it has one.
func (q *queue) drop(it *item) {
	if !it.isTimed() {
		return
	}
	end := len(q.items) - 1
	last := q.items[end]
	q.items[end] = nil
	q.items = q.items[:end]
	if last != it {
		// The last one fills the gap, and may be too soon for it or too late.
		q.rise(last, it.place)
		q.sink(last, last.place)
	}
	it.place = nowhere
}

// rise lays an item at a place that is free, or ahead of it as far as it comes sooner.
func (q *queue) rise(it *item, place int) {
	for place > 0 {
		ahead := (place - 1) / 2
		if q.items[ahead].until <= it.until {
			break
		}
		q.lay(q.items[ahead], place)
		place = ahead
	}
	q.lay(it, place)
}

// sink lays an item at its place, or behind it as far as it comes later.
func (q *queue) sink(it *item, place int) {
	for {
		behind := 2*place + 1
		if behind+1 < len(q.items) && q.items[behind+1].until < q.items[behind].until {
			behind++
		}
		if behind >= len(q.items) || it.until <= q.items[behind].until {
			break
		}
		q.lay(q.items[behind], place)
		place = behind
	}
	q.lay(it, place)
}

// lay lets an item stand at a place.
func (q *queue) lay(it *item, place int) {
	q.items[place] = it
	it.place = place
}
