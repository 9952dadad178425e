package chain

import (
	"cmp"
	"slices"

	"amber/api"
	"amber/image"
	"amber/slots"
)

// Canon tells the forest with its classes and outs numbered by first sight.
func Canon(f api.Forest) (api.Forest, api.Errno) {
	c := copiedForest(f)
	slices.SortStableFunc(c.Caps, func(x, y api.CapRec) int {
		return cmp.Or(cmp.Compare(x.Env, y.Env), cmp.Compare(x.Slot, y.Slot))
	})
	slices.SortStableFunc(c.Maps, func(x, y api.MapRec) int {
		return cmp.Or(cmp.Compare(x.Env, y.Env), cmp.Compare(x.V, y.V))
	})
	pages, inside := renumbered(c.Caps, namesClass, f.Pages)
	outs, outside := renumbered(c.Caps, namesOut, f.Outs)
	if !inside || !outside {
		return api.Forest{}, api.ErrImage
	}
	c.Pages, c.Outs = pages, outs
	if image.Valid(c) != nil {
		return api.Forest{}, api.ErrImage
	}
	return c, api.OK
}

func namesClass(c api.CapRec) bool { return c.In && c.Kind == api.KindFrame }

func namesOut(c api.CapRec) bool { return !c.In }

// renumbered gives those capabilities that name one of the things its number by first sight, and tells the things in that order; false, where one names nothing.
func renumbered[T any](caps []api.CapRec, names func(api.CapRec) bool, things []T) ([]T, bool) {
	order := slots.NewBij[int, int]()
	for i, c := range caps {
		if !names(c) {
			continue
		}
		if !standsIn(things, c.Obj) {
			return nil, false
		}
		order.Tie(order.Len(), c.Obj) // refused, if it was seen before
		caps[i].Obj, _ = order.Back(c.Obj)
	}
	return picked(things, partners(order)), true
}

// partners: what 0, 1, 2 .. are tied to, as far as there are pairs.
func partners(tie *slots.Bij[int, int]) []int {
	list := make([]int, tie.Len())
	for i := range list {
		list[i], _ = tie.To(i)
	}
	return list
}

func picked[T any](things []T, order []int) []T {
	var list []T
	for _, at := range order {
		list = append(list, things[at])
	}
	return list
}

// Tie tells a one-to-one tie of classes, and one of outs, under which two forests are the same.
func Tie(a, b api.Forest) ([]int, []int, bool) {
	if !equal(a.Envs, b.Envs) || !equal(a.Maps, b.Maps) || !equal(blurred(a.Caps), blurred(b.Caps)) {
		return nil, nil, false
	}
	classes, inside := tied(named(a.Caps, namesClass), named(b.Caps, namesClass), a.Pages, b.Pages)
	outs, outside := tied(named(a.Caps, namesOut), named(b.Caps, namesOut), a.Outs, b.Outs)
	if !inside || !outside {
		return nil, nil, false
	}
	return classes, outs, true
}

// Same tells whether there is one.
func Same(a, b api.Forest) bool {
	_, _, same := Tie(a, b)
	return same
}

func equal[T comparable](a, b []T) bool {
	if len(a) != len(b) {
		return false
	}
	for i := range a {
		if a[i] != b[i] {
			return false
		}
	}
	return true
}

// blurred: the capabilities without the numbers that a tie may change.
func blurred(caps []api.CapRec) []api.CapRec {
	list := copied(caps)
	for i, c := range list {
		if namesClass(c) || namesOut(c) {
			list[i].Obj = 0
		}
	}
	return list
}

func named(caps []api.CapRec, names func(api.CapRec) bool) []int {
	var objs []int
	for _, c := range caps {
		if names(c) {
			objs = append(objs, c.Obj)
		}
	}
	return objs
}

// tied: what in b each thing of a is tied to by the pairs of x and y, which are as many; false, if they tie not all things of both, or not one to one, or unequal ones.
func tied[T comparable](x, y []int, a, b []T) ([]int, bool) {
	tie := slots.NewBij[int, int]()
	for i := range x {
		if !standsIn(a, x[i]) || !standsIn(b, y[i]) || !tie.Tie(x[i], y[i]) {
			return nil, false
		}
	}
	if tie.Len() != len(a) || tie.Len() != len(b) {
		return nil, false
	}
	list := partners(tie)
	return list, equal(a, picked(b, list))
}
