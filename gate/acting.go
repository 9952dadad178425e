package gate

import (
	"amber/api"
	"amber/mem"
)

func (k *Kernel) clean(env int, r api.Request) (api.Reply, api.Errno) {
	f, code := k.frameOf(env, r, api.Write)
	if code != api.OK {
		return only(code)
	}
	was, _ := k.frames.Clean(f, k.next)
	if was {
		k.take()
	}
	x, _ := k.frames.Info(f)
	return tell(x.Mark, digit(was))
}

func (k *Kernel) freeze(env int, r api.Request) (api.Reply, api.Errno) {
	_, e, code := k.kth(env, r.A[0], r.A[1], api.Write)
	if code != api.OK {
		return only(code)
	}
	was, _ := k.envs.Info(e)
	k.envs.Freeze(e, r.A[2] == 1)
	return tell(digit(was.Frozen))
}

// newChild: the child comes last of its parent's tree, so its place is the one behind it.
func (k *Kernel) newChild(env int, r api.Request) (api.Reply, api.Errno) {
	place := r.A[1]
	_, parent, code := k.kth(env, r.A[0], place, api.Write)
	if code != api.OK {
		return only(code)
	}
	ahead, _ := k.envs.Tree(parent)
	if _, code := k.bear(parent, api.Quota{Frames: r.A[2], Envs: r.A[3], Extents: r.A[4]}); code != api.OK {
		return only(code)
	}
	return tell(place + len(ahead))
}

func (k *Kernel) set(env int, r api.Request) (api.Reply, api.Errno) {
	_, e, code := k.kth(env, r.A[0], r.A[1], api.Write)
	if code != api.OK {
		return only(code)
	}
	k.envs.SetState(e, r.A[2], r.A[3])
	k.envs.SetBits(e, r.A[4])
	k.envs.SetRegs(e, registers(r.Data))
	return only(api.OK)
}

// registers reads them as the first words of a page, whose bytes lie in the same order.
func registers(data []byte) api.Regs {
	b := make([]byte, api.PageBytes)
	copy(b, data)
	p, _ := mem.Unpack(b)
	regs := api.Regs{PC: p[api.NumRegs]}
	copy(regs.R[:], p[:])
	return regs
}

func (k *Kernel) fill(env int, r api.Request) (api.Reply, api.Errno) {
	c, code := k.held(env, r.A[0], api.KindFrame, api.Write)
	if code != api.OK {
		return only(code)
	}
	p, _ := mem.Unpack(r.Data)
	return only(k.frames.SetPage(c.Obj, p))
}

func (k *Kernel) place(env int, r api.Request) (api.Reply, api.Errno) {
	slot, es, place, at, rights := r.A[0], r.A[1], r.A[2], r.A[3], r.A[4]
	if _, code := k.held(env, slot, anyKind, api.Grant|rights); code != api.OK {
		return only(code)
	}
	_, to, code := k.kth(env, es, place, api.Write)
	if code != api.OK {
		return only(code)
	}
	return k.pass(api.Place{Env: env, Slot: slot}, to, at, rights)
}

func (k *Kernel) copyCap(env int, r api.Request) (api.Reply, api.Errno) {
	es, place, slot, place2, at, rights := r.A[0], r.A[1], r.A[2], r.A[3], r.A[4], r.A[5]
	tree, from, code := k.kth(env, es, place, api.Write)
	if code != api.OK {
		return only(code)
	}
	if !isPlace(tree, place2) {
		return only(api.ErrArg)
	}
	if _, code := k.held(from, slot, anyKind, api.Grant|rights); code != api.OK {
		return only(code)
	}
	return k.pass(api.Place{Env: from, Slot: slot}, tree[place2], at, rights)
}

func (k *Kernel) self(env int, r api.Request) (api.Reply, api.Errno) {
	es, place, place2, at, rights := r.A[0], r.A[1], r.A[2], r.A[3], r.A[4]
	tree, named, code := k.kth(env, es, place, api.Own|rights)
	if code != api.OK {
		return only(code)
	}
	if !isPlace(tree, place2) {
		return only(api.ErrArg)
	}
	if code := k.reserve(tree[place2], at, api.KindEnv); code != api.OK {
		return only(code)
	}
	return tell(k.mintOn(named, tree[place2], at, rights))
}

func (k *Kernel) natMapIn(env int, r api.Request) (api.Reply, api.Errno) {
	_, e, code := k.kth(env, r.A[0], r.A[1], api.Write)
	if code != api.OK {
		return only(code)
	}
	return k.lead(e, r.A[2], r.A[3], r.A[4] == 1)
}

// claim looks at the extent ahead of the room; the quotas of all together never allow more extents than there are.
func (k *Kernel) claim(env int, r api.Request) (api.Reply, api.Errno) {
	n := r.A[0]
	if !within(n, lowest, api.MaxExtents-1) {
		return only(api.ErrExtent)
	}
	if _, code := k.extents.Serial(n); code == api.OK {
		return only(api.ErrClaimed)
	}
	if code := k.reserve(env, lowest, api.KindExtent); code != api.OK {
		return only(code)
	}
	serial := k.take()
	n, _ = k.extents.Claim(n, serial)
	return tell(k.mint(env, lowest, api.Cap{Kind: api.KindExtent, Obj: n, Serial: serial, Rights: api.AllRights}), n)
}

func (k *Kernel) natRead(env int, r api.Request) (api.Reply, api.Errno) {
	c, code := k.held(env, r.A[0], api.KindExtent, api.Read)
	if code != api.OK {
		return only(code)
	}
	b, code := k.extents.Read(c.Obj, r.A[1])
	return api.Reply{Data: b}, code
}

func (k *Kernel) natWrite(env int, r api.Request) (api.Reply, api.Errno) {
	c, code := k.held(env, r.A[0], api.KindExtent, api.Write)
	if code != api.OK {
		return only(code)
	}
	return only(k.extents.Write(c.Obj, r.A[1], r.Data))
}

func (k *Kernel) flush(_ int, _ api.Request) (api.Reply, api.Errno) {
	return only(k.extents.Flush())
}

func (k *Kernel) natLeft(env int, _ api.Request) (api.Reply, api.Errno) {
	x, _ := k.envs.Info(env)
	return tell(x.Left.Frames, x.Left.Envs, x.Left.Extents, k.lists.Room(env))
}
