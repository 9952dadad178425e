package audit

import "amber/api"

func within(n, most int) bool { return 0 <= n && n <= most }

// again: a function that tells, of one number behind the other, whether it was there before.
func again() func(n int) bool {
	seen := map[int]int{}
	return func(n int) bool {
		seen[n]++
		return seen[n] > 1
	}
}

func (v view) numbers() []api.Broken {
	if len(v.envs.list) == 0 {
		return []api.Broken{{Rule: 1, A: none, B: none}}
	}
	return broken(1, v.envs, func(at int, e api.EnvState) bool {
		return !within(e.Num, api.MaxEnvs-1) || !v.envs.rises(at) || at == 0 && e.Num != 0
	})
}

func (v view) parents() []api.Broken {
	return broken(2, v.envs, func(_ int, e api.EnvState) bool {
		if e.Num == 0 {
			return e.Env.Parent != none
		}
		parent, there := v.env(e.Env.Parent)
		return !there || e.Env.Serial <= parent.Serial
	})
}

// thing: an environment, a frame or an extent, as far as all of them are alike.
type thing struct{ kind, num, serial, holds int }

func thingName(t thing) name { return name{t.kind, t.num} }

func (v view) serials() []api.Broken {
	var all []thing
	for _, e := range v.state.Envs {
		all = append(all, thing{kind: api.KindEnv, num: e.Num, serial: e.Env.Serial})
	}
	all = append(all, v.heldThings()...)
	twice := again()
	return broken(3, rollOf(all, thingName), func(_ int, t thing) bool {
		known := twice(t.serial)
		return known || t.serial < 1 || t.serial >= v.state.Serial
	})
}

// heldThings: those that live by being held.
func (v view) heldThings() []thing {
	var held []thing
	for _, f := range v.state.Frames {
		held = append(held, thing{api.KindFrame, f.Num, f.Frame.Serial, f.Frame.Holds})
	}
	for _, x := range v.state.Extents {
		held = append(held, thing{api.KindExtent, x.Num, x.Serial, x.Holds})
	}
	return held
}

func (v view) words() []api.Broken {
	return broken(4, v.envs, func(_ int, e api.EnvState) bool {
		return !within(e.Env.State, api.Faulted) || !within(e.Env.Code, api.MaxWord) || !within(e.Env.Bits, api.MaxWord)
	})
}

func (v view) slots() []api.Broken {
	return broken(5, v.caps, func(at int, c api.CapState) bool {
		return !v.has(c.Held.Env) || !within(c.Held.Slot, api.MaxSlots-1) || !v.caps.rises(at)
	})
}

func (v view) things() []api.Broken {
	return broken(6, v.caps, func(_ int, c api.CapState) bool {
		serial, there := v.serialOf(c.Held.Cap.Kind, c.Held.Cap.Obj)
		return !there || serial != c.Held.Cap.Serial || !within(c.Held.Cap.Rights, api.AllRights)
	})
}

func (v view) derivations() []api.Broken {
	ending, nowhere := v.ending(), api.Place{Env: none, Slot: none}
	return broken(7, v.caps, func(_ int, c api.CapState) bool {
		return !ending.has(c.From) || c.From != nowhere && !v.gives(c.From, c.Held.Cap)
	})
}

// gives tells whether such a capability may be derived from the one at a place.
func (v view) gives(from api.Place, c api.Cap) bool {
	giver, there := v.capAt(from)
	needed := api.Grant | c.Rights
	return there && thingOf(giver) == thingOf(c) && needed&^giver.Rights == 0
}

// ending: the places from which the way up comes to an end: those where nothing lies, and what hangs on them.
func (v view) ending() set[api.Place] {
	var ends []api.Place
	for _, c := range v.caps.list {
		if _, there := v.capAt(c.From); !there {
			ends = append(ends, c.From)
		}
	}
	return spread(ends, hanging(v.caps.firsts))
}

func (v view) pages() []api.Broken {
	return broken(8, v.maps, func(at int, m api.MapRec) bool {
		return !v.has(m.Env) || !within(m.V, api.MaxPages-1) || !v.maps.rises(at) || !v.leads(m)
	})
}

// leads tells whether the slot of a page has what the page needs.
func (v view) leads(m api.MapRec) bool {
	c, there := v.capAt(api.Place{Env: m.Env, Slot: m.Slot})
	needed := api.Read
	if m.Write {
		needed |= api.Write
	}
	return there && c.Kind == api.KindFrame && needed&^c.Rights == 0
}

func (v view) holdings() []api.Broken {
	held := rollOf(v.heldThings(), thingName)
	counted := holds(v.state.Caps, func(int) bool { return true })
	return broken(9, held, func(at int, t thing) bool {
		most := api.MaxFrames - 1
		if t.kind == api.KindExtent {
			most = api.MaxExtents - 1
		}
		// The first extent rises above the frames ahead of it by its kind.
		return !within(t.num, most) || !held.rises(at) || t.holds != counted[thingName(t)] || t.holds < 1
	})
}

func (v view) marks() []api.Broken {
	twice := again()
	return broken(10, v.frames, func(_ int, s api.FrameState) bool {
		f := s.Frame
		known := twice(f.Mark)
		if f.Mark == 0 {
			return !f.Dirty
		}
		return known || f.Mark <= f.Serial || f.Mark >= v.state.Serial
	})
}

func (v view) payments() []api.Broken {
	paid := bills(v.state)
	return broken(11, v.envs, func(_ int, e api.EnvState) bool {
		left, quota, cost := e.Env.Left, e.Env.Quota, paid[e.Num]
		due := api.Quota{Frames: quota.Frames - cost.Frames, Envs: quota.Envs - cost.Envs, Extents: quota.Extents - cost.Extents}
		return left != due || left.Frames < 0 || left.Envs < 0 || left.Extents < 0
	})
}

func (v view) rootQuota() []api.Broken {
	// All that the machine has, but for the environment itself.
	whole := api.Quota{Frames: api.MaxFrames, Envs: api.MaxEnvs - 1, Extents: api.MaxExtents}
	if root, there := v.env(0); there && root.Quota == whole {
		return nil
	}
	return []api.Broken{{Rule: 12, A: 0, B: none}}
}
