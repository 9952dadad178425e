package caps

import "amber/api"

// nowhere: the place of the parent that a root has not.
func nowhere() api.Place { return api.Place{Env: -1, Slot: -1} }

// Get tells one.
func (b *Book) Get(env, slot int) (api.Cap, api.Errno) {
	r, code := b.look(env, slot)
	return r.cap, code
}

// From tells its parent.
func (b *Book) From(env, slot int) (api.Place, api.Errno) {
	r, code := b.look(env, slot)
	if code != api.OK {
		return nowhere(), code
	}
	return r.parent(), api.OK
}

// Up tells the nearest ancestor that lies with one of these environments.
func (b *Book) Up(env, slot int, inside []int) (api.Place, api.Errno) {
	r, code := b.look(env, slot)
	if code != api.OK {
		return nowhere(), code
	}
	var in [api.MaxEnvs]bool // the list is gone through once, however many ancestors there are
	for _, n := range inside {
		if n >= 0 && n < len(in) {
			in[n] = true
		}
	}
	p := r.parent()
	for p != nowhere() && !in[p.Env] {
		above, _ := b.look(p.Env, p.Slot)
		p = above.parent()
	}
	return p, api.OK
}

// List tells a list, by slot.
func (b *Book) List(env int) ([]api.Held, api.Errno) {
	l, open := b.lists.Get(env)
	if !open {
		return nil, api.ErrList
	}
	var held []api.Held
	for slot, r := range l.All() {
		held = append(held, api.Held{Env: env, Slot: slot, Cap: r.cap})
	}
	return held, api.OK
}

// Count tells how many capabilities of a kind a list holds.
func (b *Book) Count(env, kind int) int {
	l, open := b.lists.Get(env)
	if !open {
		return 0
	}
	return len(fitting(l, same(record.kind, kind)))
}

// On tells how many there are on an object.
func (b *Book) On(kind, obj int) int {
	return len(b.places(same(record.object, pair{kind, obj})))
}

// Room tells how many slots of a list are free.
func (b *Book) Room(env int) int {
	l, open := b.lists.Get(env)
	if !open {
		return 0
	}
	return l.Bound() - l.Len()
}

// Find tells the lowest slot with a capability on the thing of that serial with at least these rights, or -1.
func (b *Book) Find(env, kind, serial, rights int) int {
	l, open := b.lists.Get(env)
	if !open || !areRights(rights) {
		return -1
	}
	fits := same(record.thing, pair{kind, serial})
	for slot, r := range l.All() {
		if fits(r) && r.has(rights) {
			return slot
		}
	}
	return -1
}

// look finds one where it lies.
func (b *Book) look(env, slot int) (record, api.Errno) {
	l, open := b.lists.Get(env)
	if !open {
		return record{}, api.ErrList
	}
	r, there := l.Get(slot)
	if !there {
		return record{}, api.ErrNoCap
	}
	return r, api.OK
}

// fitting tells the slots of a list whose capabilities a test is for, rising.
func fitting(l *list, fits test) []int {
	var found []int
	for slot, r := range l.All() {
		if fits(r) {
			found = append(found, slot)
		}
	}
	return found
}

// places tells where those lie that a test is for, by environment, then slot.
func (b *Book) places(fits test) []api.Place {
	var found []api.Place
	for env, l := range b.lists.All() {
		for _, slot := range fitting(l, fits) {
			found = append(found, api.Place{Env: env, Slot: slot})
		}
	}
	return found
}

// below lays the places of a capability's children, and of theirs, behind those found already.
func (b *Book) below(p api.Place, found []api.Place) []api.Place {
	for _, child := range b.places(same(record.parent, p)) {
		found = b.below(child, append(found, child))
	}
	return found
}
