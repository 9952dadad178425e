package audit

import "amber/api"

// view: a state whose records are found by their names.
type view struct {
	state   api.State
	envs    roll[api.EnvState]
	caps    roll[api.CapState]
	maps    roll[api.MapRec]
	frames  roll[api.FrameState]
	extents roll[api.ExtState]
}

func viewOf(s api.State) view {
	return view{
		state:   s,
		envs:    envsOf(s),
		caps:    capsOf(s),
		maps:    rollOf(s.Maps, func(m api.MapRec) name { return name{m.Env, m.V} }),
		frames:  rollOf(s.Frames, func(f api.FrameState) name { return name{f.Num, none} }),
		extents: rollOf(s.Extents, func(x api.ExtState) name { return name{x.Num, none} }),
	}
}

func envsOf(s api.State) roll[api.EnvState] {
	return rollOf(s.Envs, func(e api.EnvState) name { return name{e.Num, none} })
}

func capsOf(s api.State) roll[api.CapState] {
	return rollOf(s.Caps, func(c api.CapState) name { return name{c.Held.Env, c.Held.Slot} })
}

func (v view) env(num int) (api.Env, bool) {
	e, there := v.envs.find(name{num, none})
	return e.Env, there
}

func (v view) has(env int) bool { return !v.envs.lacks(name{env, none}) }

func (v view) capAt(p api.Place) (api.Cap, bool) {
	c, there := v.caps.find(name{p.Env, p.Slot})
	return c.Held.Cap, there
}

// serialOf: of the thing of that kind and number, if it is there.
func (v view) serialOf(kind, num int) (int, bool) {
	switch kind {
	case api.KindFrame:
		f, there := v.frames.find(name{num, none})
		return f.Frame.Serial, there
	case api.KindEnv:
		e, there := v.env(num)
		return e.Serial, there
	case api.KindExtent:
		x, there := v.extents.find(name{num, none})
		return x.Serial, there
	}
	return 0, false
}

// trees: the numbers in the trees of those of these environments that are there.
func trees(envs roll[api.EnvState], roots []int) set[int] {
	var there []int
	for _, n := range roots {
		if !envs.lacks(name{n, none}) {
			there = append(there, n)
		}
	}
	children := map[int][]int{}
	for _, e := range envs.list {
		children[e.Env.Parent] = append(children[e.Env.Parent], e.Num)
	}
	return spread(there, children)
}

// hanging: the places of the capabilities that have a place for From.
func hanging(caps []api.CapState) map[api.Place][]api.Place {
	below := map[api.Place][]api.Place{}
	for _, c := range caps {
		below[c.From] = append(below[c.From], api.Place{Env: c.Held.Env, Slot: c.Held.Slot})
	}
	return below
}

// holds: how many capabilities of holders that count lie on the things of each kind and number.
func holds(caps []api.CapState, counts func(env int) bool) map[name]int {
	held := map[name]int{}
	for _, c := range caps {
		if counts(c.Held.Env) {
			held[name{c.Held.Cap.Kind, c.Held.Cap.Obj}]++
		}
	}
	return held
}

// bills: what each environment pays.
func bills(s api.State) map[int]api.Quota {
	paid := map[int]api.Quota{}
	for _, c := range s.Caps {
		q := paid[c.Held.Env]
		switch c.Held.Cap.Kind {
		case api.KindFrame:
			q.Frames++
		case api.KindExtent:
			q.Extents++
		}
		paid[c.Held.Env] = q
	}
	for _, e := range s.Envs {
		q := paid[e.Env.Parent]
		q.Frames += e.Env.Quota.Frames
		q.Envs += 1 + e.Env.Quota.Envs
		q.Extents += e.Env.Quota.Extents
		paid[e.Env.Parent] = q
	}
	return paid
}

// thingOf: what a capability is on, whatever its rights.
func thingOf(c api.Cap) api.Cap {
	c.Rights = 0
	return c
}
