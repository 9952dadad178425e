package gate

import "amber/api"

// lowest: the slot, or the extent, by which a caller leaves the choice to the kernel.
const lowest = -1

// anyKind: a capability on whatever thing.
const anyKind = 0

// held tells the capability at a slot of a list, if it is of that kind and has these rights.
func (k *Kernel) held(env, slot, kind, rights int) (api.Cap, api.Errno) {
	c, code := k.lists.Get(env, slot)
	switch {
	case code != api.OK:
		return api.Cap{}, code
	case kind != anyKind && kind != c.Kind:
		return api.Cap{}, api.ErrKind
	case rights&^c.Rights != 0:
		return api.Cap{}, api.ErrRights
	}
	return c, api.OK
}

// price: what the holder of a capability on a thing of that kind pays for it.
func price(kind int) api.Quota {
	switch kind {
	case api.KindFrame:
		return api.Quota{Frames: 1}
	case api.KindExtent:
		return api.Quota{Extents: 1}
	}
	return api.Quota{}
}

// hold adds the hold of a new capability on a thing that is there already.
func (k *Kernel) hold(c api.Cap) {
	switch c.Kind {
	case api.KindFrame:
		k.frames.Hold(c.Obj)
	case api.KindExtent:
		k.extents.Hold(c.Obj)
	}
}

// release takes the hold of a capability that went.
func (k *Kernel) release(c api.Cap) {
	switch c.Kind {
	case api.KindFrame:
		k.frames.Drop(c.Obj)
	case api.KindExtent:
		k.extents.Drop(c.Obj)
	}
}

// reserve sees that a list has room for a capability at a slot (or at the lowest free one), and takes what its holder pays for it. Behind it the capability can be laid without fail.
func (k *Kernel) reserve(env, at, kind int) api.Errno {
	if _, code := k.lists.Get(env, at); code == api.OK {
		return api.ErrTaken
	}
	if at == lowest && k.lists.Room(env) == 0 {
		return api.ErrNoSpace
	}
	return k.envs.Pay(env, price(kind))
}

// pass lays a child of the capability at a place, from which it may be derived, into a list, whose environment pays; it tells the slot.
func (k *Kernel) pass(from api.Place, to, at, rights int) (api.Reply, api.Errno) {
	c, _ := k.lists.Get(from.Env, from.Slot)
	if code := k.reserve(to, at, c.Kind); code != api.OK {
		return only(code)
	}
	slot, _ := k.lists.Derive(from.Env, from.Slot, to, at, rights)
	k.hold(c)
	return tell(slot)
}

// mint lays a capability without a parent, for which there is room; its slot.
func (k *Kernel) mint(env, at int, c api.Cap) int {
	slot, _ := k.lists.Mint(env, at, c)
	return slot
}

// gone does what is due for capabilities that have gone from their lists.
func (k *Kernel) gone(went ...api.Held) {
	for _, h := range went {
		k.envs.Refund(h.Env, price(h.Cap.Kind))
		k.table(h.Env).Forget(h.Slot)
		k.release(h.Cap)
	}
}

// bear makes a child with the next serial.
func (k *Kernel) bear(parent int, quota api.Quota) (int, api.Errno) {
	e, code := k.envs.Create(parent, k.next, quota)
	if code != api.OK {
		return 0, code
	}
	k.take()
	k.furnish(e)
	return e, api.OK
}

// end ends an environment and all below it, with all that lies in their lists and all that names them, in whatever list.
func (k *Kernel) end(env int) {
	tree, _ := k.envs.Tree(env)
	for _, e := range tree {
		went, _ := k.lists.Shut(e)
		k.gone(went...)
		k.gone(k.lists.Purge(api.KindEnv, e)...)
		k.tables.Drop(e)
	}
	k.envs.Destroy(env)
}
