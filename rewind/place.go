package rewind

import (
	"amber/api"
	"amber/gate"
	"amber/restore"
	"amber/store"
	"amber/walk"
)

// needed: the rights that a trip must have on its tree.
const needed = api.Read | api.Write | api.Own

// place: where a trip is at home: a kernel, a store, and the environment in whose name everything is done, its caller.
type place struct {
	k   *gate.Kernel
	s   *store.Store
	env int
}

// tree: one of the caller's, with the slot where the capability on its root lies, and the root's number and serial.
type tree struct {
	slot, root, serial int
}

// served: a nil kernel is served by no store.
func (p place) served() bool { return p.s != nil && p.s.Serves(p.k, p.env) }

func (p place) lives() bool {
	_, code := p.k.Env(p.env)
	return code == api.OK
}

// stopped: the caller or an environment above it is flagged, so that nothing below it runs.
func (p place) stopped() bool {
	for env := p.env; env >= 0; {
		x, _ := p.k.Env(env)
		if x.Frozen {
			return true
		}
		env = x.Parent
	}
	return false
}

// look: what lies in a slot of the caller's list; false, if nothing does. No call tells a capability's parent in a list above the caller, so the state is asked.
func (p place) look(slot int) (api.CapState, bool) {
	for _, c := range p.k.State().Caps {
		if c.Held.Env == p.env && c.Held.Slot == slot {
			return c, true
		}
	}
	return api.CapState{}, false
}

// holds: whether the capability that a trip acts by lies where it lay.
func (p place) holds(t tree) bool {
	c, _ := p.look(t.slot)
	on := c.Held.Cap
	return on.Kind == api.KindEnv && on.Serial == t.serial && on.Rights&needed == needed
}

// fit: the tree that a slot names, if a trip can begin with it.
func (p place) fit(slot int) (tree, api.Errno) {
	switch {
	case !p.served():
		return tree{}, api.ErrArg
	case !p.lives():
		return tree{}, api.ErrEnv
	}
	c, there := p.look(slot)
	switch on := c.Held.Cap; {
	case !there:
		return tree{}, api.ErrNoCap
	case on.Kind != api.KindEnv:
		return tree{}, api.ErrKind
	case on.Rights&needed != needed:
		return tree{}, api.ErrRights
	}
	if code := p.apart(c); code != api.OK {
		return tree{}, code
	}
	return treeOf(c), api.OK
}

// apart: whether the tree that a capability names can be made anew and ended by the caller alone: it is a child's, not lent, and names nothing outside. The capability's rights let walk refuse nothing.
func (p place) apart(c api.CapState) api.Errno {
	slot := c.Held.Slot
	if inside, _ := walk.Holds(p.k, p.env, slot); inside {
		return api.ErrSelf
	}
	root, _ := p.k.Env(c.Held.Cap.Obj)
	if root.Parent != p.env || c.From != (api.Place{Env: -1, Slot: -1}) {
		return api.ErrState
	}
	if forest, _, _ := walk.Read(p.k, p.env, slot); len(forest.Outs) > 0 {
		return api.ErrStaleCap
	}
	return api.OK
}

func treeOf(c api.CapState) tree {
	return tree{slot: c.Held.Slot, root: c.Held.Cap.Obj, serial: c.Held.Cap.Serial}
}

// wake restores the tree of the beginning.
func (p place) wake() (tree, api.Errno) {
	slot, code := restore.Restore(p.k, p.s, p.env)
	if code != api.OK {
		return tree{}, code
	}
	c, _ := p.look(slot)
	return treeOf(c), api.OK
}

func (p place) kill(t tree) {
	p.k.Call(p.env, api.Request{Call: api.CallKill, A: [6]int{t.slot}})
}

// thaw sets the flag of a tree's root off; what it answers sets it back to what it was.
func (p place) thaw(t tree) func() {
	was, _ := walk.Freeze(p.k, p.env, t.slot, false)
	return func() { walk.Freeze(p.k, p.env, t.slot, was) }
}
