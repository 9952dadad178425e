package gate

import "amber/api"

func (k *Kernel) exit(env int, r api.Request) (api.Reply, api.Errno) {
	if !k.is(env, api.Ready) {
		return only(api.ErrState)
	}
	k.envs.SetState(env, api.Done, r.A[0])
	return only(api.OK)
}

func (k *Kernel) wait(env int, _ api.Request) (api.Reply, api.Errno) {
	if !k.is(env, api.Ready) {
		return only(api.ErrState)
	}
	bits, _ := k.envs.Wait(env)
	return tell(bits)
}

// spawn looks for a slot first: the child's quota is taken when it is made.
func (k *Kernel) spawn(env int, r api.Request) (api.Reply, api.Errno) {
	if k.lists.Room(env) == 0 {
		return only(api.ErrNoSpace)
	}
	child, code := k.bear(env, api.Quota{Frames: r.A[0], Envs: r.A[1], Extents: r.A[2]})
	if code != api.OK {
		return only(code)
	}
	return tell(k.mintOn(child, env, lowest, api.AllRights))
}

// mintOn lays a capability on an environment without a parent into a list that has room.
func (k *Kernel) mintOn(env, to, at, rights int) int {
	x, _ := k.envs.Info(env)
	return k.mint(to, at, api.Cap{Kind: api.KindEnv, Obj: env, Serial: x.Serial, Rights: rights})
}

func (k *Kernel) start(env int, r api.Request) (api.Reply, api.Errno) {
	c, code := k.held(env, r.A[0], api.KindEnv, api.Write)
	if code != api.OK {
		return only(code)
	}
	x, _ := k.envs.Info(c.Obj)
	if x.State != api.Idle {
		return only(api.ErrState)
	}
	x.Regs.PC = uint32(r.A[1])
	k.envs.SetRegs(c.Obj, x.Regs)
	k.envs.SetState(c.Obj, api.Ready, x.Code)
	return only(api.OK)
}

func (k *Kernel) notify(env int, r api.Request) (api.Reply, api.Errno) {
	c, code := k.held(env, r.A[0], api.KindEnv, api.Write)
	if code != api.OK {
		return only(code)
	}
	k.envs.Notify(c.Obj, r.A[1])
	return only(api.OK)
}

func (k *Kernel) kill(env int, r api.Request) (api.Reply, api.Errno) {
	c, code := k.held(env, r.A[0], api.KindEnv, api.Own)
	if code != api.OK {
		return only(code)
	}
	if c.Obj == env || !k.envs.Inside(env, c.Obj) {
		return only(api.ErrSelf)
	}
	k.end(c.Obj)
	return only(api.OK)
}

func (k *Kernel) status(env int, r api.Request) (api.Reply, api.Errno) {
	c, code := k.held(env, r.A[0], api.KindEnv, api.Read)
	if code != api.OK {
		return only(code)
	}
	x, _ := k.envs.Info(c.Obj)
	return tell(x.State, x.Code)
}

func (k *Kernel) setReg(env int, r api.Request) (api.Reply, api.Errno) {
	c, code := k.held(env, r.A[0], api.KindEnv, api.Write)
	if code != api.OK {
		return only(code)
	}
	x, _ := k.envs.Info(c.Obj)
	*register(&x.Regs, r.A[1]) = uint32(r.A[2])
	k.envs.SetRegs(c.Obj, x.Regs)
	return only(api.OK)
}

func (k *Kernel) getReg(env int, r api.Request) (api.Reply, api.Errno) {
	c, code := k.held(env, r.A[0], api.KindEnv, api.Read)
	if code != api.OK {
		return only(code)
	}
	x, _ := k.envs.Info(c.Obj)
	return tell(int(*register(&x.Regs, r.A[1])))
}

// register finds one by its number; the PC's is behind the others'.
func register(regs *api.Regs, n int) *uint32 {
	if n == api.NumRegs {
		return &regs.PC
	}
	return &regs.R[n]
}

func (k *Kernel) is(env, state int) bool {
	x, _ := k.envs.Info(env)
	return x.State == state
}
