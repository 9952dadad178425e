package audit

import (
	"cmp"
	"slices"

	"amber/api"
)

// none stands where a number has nothing to tell.
const none = -1

// name: by which records of one kind are known, and told where they break a rule.
type name struct{ a, b int }

func byName(x, y name) int {
	return cmp.Or(cmp.Compare(x.a, y.a), cmp.Compare(x.b, y.b))
}

// roll: a list as it was handed in, and the records that are found by their names. A name that stands twice is that of the first, for a state may be any.
type roll[T any] struct {
	list   []T
	firsts []T // by name
	name   func(T) name
}

func rollOf[T any](list []T, named func(T) name) roll[T] {
	order := func(x, y T) int { return byName(named(x), named(y)) }
	return roll[T]{list, firsts(list, order), named}
}

// firsts: the list sorted and cleaned of doubles: of records that stand alike the one that stood ahead.
func firsts[T any](list []T, order func(x, y T) int) []T {
	sorted := slices.Clone(list)
	slices.SortStableFunc(sorted, order)
	return slices.CompactFunc(sorted, func(x, y T) bool { return order(x, y) == 0 })
}

func (r roll[T]) find(n name) (T, bool) {
	at, there := slices.BinarySearchFunc(r.firsts, n, func(x T, n name) int { return byName(r.name(x), n) })
	if !there {
		var nothing T
		return nothing, false
	}
	return r.firsts[at], true
}

func (r roll[T]) lacks(n name) bool {
	_, there := r.find(n)
	return !there
}

// rises tells whether the name at this place of the list is above the one ahead of it.
func (r roll[T]) rises(at int) bool {
	return at == 0 || byName(r.name(r.list[at-1]), r.name(r.list[at])) < 0
}

// broken goes through a list and tells the records that break a rule.
func broken[T any](rule int, r roll[T], breaks func(at int, x T) bool) []api.Broken {
	var list []api.Broken
	for at, x := range r.list {
		if breaks(at, x) {
			n := r.name(x)
			list = append(list, api.Broken{Rule: rule, A: n.a, B: n.b})
		}
	}
	return list
}

// set: a key is there or not, and has nothing else to tell.
type set[K comparable] map[K]struct{}

func (s set[K]) has(k K) bool {
	_, there := s[k]
	return there
}

// spread: where it starts, and all that lies below what it has; each is looked at once, so that rings end too.
func spread[K comparable](start []K, below map[K][]K) set[K] {
	found := set[K]{}
	todo := slices.Clone(start)
	for len(todo) > 0 {
		last := todo[len(todo)-1]
		todo = todo[:len(todo)-1]
		if !found.has(last) {
			found[last] = struct{}{}
			todo = append(todo, below[last]...)
		}
	}
	return found
}
