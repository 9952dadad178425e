// Package slots: bounded tables with the lowest free place first, and one-to-one ties. See DOC.md, chapter 3.
package slots

import (
	"iter"

	"amber/api"
)

// Table: places 0 .. bound-1, each free or with a value.
type Table[T any] struct {
	places []*T // nil where a place is free: an empty place takes no room for a T, and a dropped T is not kept
	taken  int
}

// New: all places are free.
func New[T any](bound int) *Table[T] {
	return &Table[T]{places: make([]*T, min(max(bound, 0), api.MaxBound))}
}

// Bound tells how many places there are.
func (t *Table[T]) Bound() int { return len(t.places) }

// Len tells how many places are taken.
func (t *Table[T]) Len() int { return t.taken }

// Put lays v at the lowest free place; -1 and ErrNoSpace, if none is free.
func (t *Table[T]) Put(v T) (int, api.Errno) {
	for i, p := range t.places {
		if p == nil {
			t.lay(i, v)
			return i, api.OK
		}
	}
	return -1, api.ErrNoSpace
}

// PutAt lays v at a free place.
func (t *Table[T]) PutAt(i int, v T) api.Errno {
	if t.outside(i) {
		return api.ErrSlot
	}
	if t.places[i] != nil {
		return api.ErrTaken
	}
	t.lay(i, v)
	return api.OK
}

// Get tells the value at a place.
func (t *Table[T]) Get(i int) (T, bool) {
	if !t.holds(i) {
		var none T
		return none, false
	}
	return *t.places[i], true
}

// Set changes the value at a taken place.
func (t *Table[T]) Set(i int, v T) bool {
	if !t.holds(i) {
		return false
	}
	*t.places[i] = v
	return true
}

// Drop frees a place and tells what lay there.
func (t *Table[T]) Drop(i int) (T, bool) {
	v, ok := t.Get(i)
	if ok {
		t.places[i] = nil
		t.taken--
	}
	return v, ok
}

// Clear frees all places.
func (t *Table[T]) Clear() {
	clear(t.places)
	t.taken = 0
}

// Next tells the lowest taken place from i on, or -1.
func (t *Table[T]) Next(i int) int {
	for k := max(i, 0); k < len(t.places); k++ {
		if t.places[k] != nil {
			return k
		}
	}
	return -1
}

// All goes through the taken places, rising. Each is looked up only when the body has come back, so that what the body lays or drops further up counts.
func (t *Table[T]) All() iter.Seq2[int, T] {
	return func(body func(int, T) bool) {
		for i := t.Next(0); i >= 0; i = t.Next(i + 1) {
			if !body(i, *t.places[i]) {
				return
			}
		}
	}
}

// Find tells the lowest place with v, or -1.
func Find[T comparable](t *Table[T], v T) int {
	for i, held := range t.All() {
		if held == v {
			return i
		}
	}
	return -1
}

// Copy gives a table of its own with the same places.
func Copy[T any](t *Table[T]) *Table[T] {
	c := New[T](t.Bound())
	for i, v := range t.All() {
		c.lay(i, v)
	}
	return c
}

func (t *Table[T]) outside(i int) bool { return i < 0 || i >= len(t.places) }

func (t *Table[T]) holds(i int) bool { return !t.outside(i) && t.places[i] != nil }

// lay fills a place that is known to be free.
func (t *Table[T]) lay(i int, v T) {
	t.places[i] = &v
	t.taken++
}
