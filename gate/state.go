package gate

import "amber/api"

// Env tells of an environment.
func (k *Kernel) Env(env int) (api.Env, api.Errno) { return k.envs.Info(env) }

// SetRegs sets its registers.
func (k *Kernel) SetRegs(env int, r api.Regs) api.Errno { return k.envs.SetRegs(env, r) }

// Fault makes it faulted.
func (k *Kernel) Fault(env int, code api.Errno) api.Errno {
	return k.envs.SetState(env, api.Faulted, int(code))
}

// Runs tells whether it may go.
func (k *Kernel) Runs(env int) bool { return k.envs.Runs(env) }

// Tree tells an environment and all below it, in preorder.
func (k *Kernel) Tree(env int) ([]int, api.Errno) { return k.envs.Tree(env) }

// SerialOf tells the serial of what a slot names, or 0.
func (k *Kernel) SerialOf(env, slot int) int {
	c, _ := k.lists.Get(env, slot)
	return c.Serial
}

// State tells everything.
func (k *Kernel) State() api.State {
	s := api.State{Serial: k.next, Frames: k.allFrames(), Extents: k.extents.List()}
	for _, e := range k.envs.Live() {
		x, _ := k.envs.Info(e)
		s.Envs = append(s.Envs, api.EnvState{Num: e, Env: x})
		s.Caps = append(s.Caps, k.capsOf(e)...)
		s.Maps = append(s.Maps, k.mapsOf(e)...)
	}
	return s
}

func (k *Kernel) allFrames() []api.FrameState {
	var told []api.FrameState
	for _, f := range k.frames.Live() {
		x, _ := k.frames.Info(f)
		p, _ := k.frames.Page(f)
		told = append(told, api.FrameState{Num: f, Frame: x, Page: p})
	}
	return told
}

func (k *Kernel) capsOf(env int) []api.CapState {
	list, _ := k.lists.List(env)
	var told []api.CapState
	for _, h := range list {
		from, _ := k.lists.From(h.Env, h.Slot)
		told = append(told, api.CapState{Held: h, From: from})
	}
	return told
}

func (k *Kernel) mapsOf(env int) []api.MapRec {
	var told []api.MapRec
	for _, m := range k.table(env).Entries() {
		told = append(told, api.MapRec{Env: env, V: m.V, Slot: m.Slot, Write: m.Write})
	}
	return told
}
