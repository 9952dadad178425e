package gate

import "amber/api"

func (k *Kernel) yield(_ int, _ api.Request) (api.Reply, api.Errno) { return only(api.OK) }

func (k *Kernel) emit(_ int, _ api.Request) (api.Reply, api.Errno) { return only(api.OK) }

// ask: only a run has answers.
func (k *Kernel) ask(_ int, _ api.Request) (api.Reply, api.Errno) { return only(api.ErrState) }

func (k *Kernel) alloc(env int, _ api.Request) (api.Reply, api.Errno) {
	if code := k.reserve(env, lowest, api.KindFrame); code != api.OK {
		return only(code)
	}
	serial := k.take()
	f, _ := k.frames.Alloc(serial)
	return tell(k.mint(env, lowest, api.Cap{Kind: api.KindFrame, Obj: f, Serial: serial, Rights: api.AllRights}))
}

func (k *Kernel) derive(env int, r api.Request) (api.Reply, api.Errno) {
	slot, rights := r.A[0], r.A[1]
	if _, code := k.held(env, slot, anyKind, api.Grant|rights); code != api.OK {
		return only(code)
	}
	return k.pass(api.Place{Env: env, Slot: slot}, env, lowest, rights)
}

func (k *Kernel) grant(env int, r api.Request) (api.Reply, api.Errno) {
	slot, es, rights := r.A[0], r.A[1], r.A[2]
	if _, code := k.held(env, slot, anyKind, api.Grant|rights); code != api.OK {
		return only(code)
	}
	to, code := k.held(env, es, api.KindEnv, api.Write)
	if code != api.OK {
		return only(code)
	}
	_, code = k.pass(api.Place{Env: env, Slot: slot}, to.Obj, lowest, rights)
	return only(code)
}

func (k *Kernel) drop(env int, r api.Request) (api.Reply, api.Errno) {
	slot := r.A[0]
	c, code := k.lists.Drop(env, slot)
	if code != api.OK {
		return only(code)
	}
	k.gone(api.Held{Env: env, Slot: slot, Cap: c})
	return only(api.OK)
}

func (k *Kernel) revoke(env int, r api.Request) (api.Reply, api.Errno) {
	went, code := k.lists.Revoke(env, r.A[0])
	if code != api.OK {
		return only(code)
	}
	k.gone(went...)
	return only(api.OK)
}

func (k *Kernel) info(env int, r api.Request) (api.Reply, api.Errno) {
	c, code := k.lists.Get(env, r.A[0])
	if code != api.OK {
		return only(code)
	}
	return tell(c.Kind, c.Rights)
}

func (k *Kernel) left(env int, _ api.Request) (api.Reply, api.Errno) {
	x, _ := k.envs.Info(env)
	return tell(x.Left.Frames, x.Left.Envs, x.Left.Extents)
}
