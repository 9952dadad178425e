package restore_test

import (
	"cmp"
	"slices"
	"testing"

	"amber/api"
	"amber/chain"
	"amber/gate"
	"amber/image"
	"amber/store"
)

// model: the chapter once more: the whole state behind a Build, told from the one ahead of it without a call.
type model struct {
	s     api.State
	env   int
	f     api.Forest
	envs  []int // numbers, by place
	first int   // the serial of place 0
}

func modelRestore(k *gate.Kernel, s *store.Store, env int) (api.State, int, api.Errno) {
	if k == nil || s == nil || !s.Serves(k, env) {
		return api.State{}, -1, api.ErrArg
	}
	if !slices.ContainsFunc(k.State().Envs, func(e api.EnvState) bool { return e.Num == env }) {
		return api.State{}, -1, api.ErrEnv
	}
	raws, code := s.Chain()
	if code != api.OK {
		return api.State{}, -1, code
	}
	fold, code := chain.Load(raws)
	switch code {
	case api.OK:
		return modelBuild(k.State(), env, fold.Forest)
	case api.ErrNoImage:
		return api.State{}, -1, code
	}
	return api.State{}, -1, api.ErrImage
}

// modelBuild leaves the state that it is given as it is.
func modelBuild(s api.State, env int, f api.Forest) (api.State, int, api.Errno) {
	m := &model{s: s, env: env, f: f, first: s.Serial}
	if code := m.refuses(); code != api.OK {
		return api.State{}, -1, code
	}
	m.s.Envs, m.s.Caps, m.s.Maps = slices.Clone(s.Envs), slices.Clone(s.Caps), slices.Clone(s.Maps)
	m.s.Frames, m.s.Extents = slices.Clone(s.Frames), slices.Clone(s.Extents)
	slot := m.freeSlot()
	for range f.Envs {
		m.envs = append(m.envs, lowestFree(func(n int) bool {
			return slices.Contains(m.envs, n) || slices.ContainsFunc(s.Envs, func(e api.EnvState) bool { return e.Num == n })
		}))
	}
	frames := m.addFrames()
	m.addCaps(frames)
	m.s.Caps = append(m.s.Caps, api.CapState{Held: api.Held{Env: env, Slot: slot, Cap: api.Cap{Kind: api.KindEnv, Obj: m.envs[0], Serial: m.first, Rights: 15}}, From: none})
	for _, x := range f.Maps {
		x.Env = m.envs[x.Env]
		m.s.Maps = append(m.s.Maps, x)
	}
	m.addEnvs()
	m.s.Serial += len(f.Envs) + len(f.Pages)
	m.sort()
	return m.s, slot, api.OK
}

func lowestFree(taken func(n int) bool) int {
	n := 0
	for taken(n) {
		n++
	}
	return n
}

func (m *model) caller() *api.Env {
	for i, e := range m.s.Envs {
		if e.Num == m.env {
			return &m.s.Envs[i].Env
		}
	}
	return nil
}

func (m *model) at(env, slot int) (api.CapState, bool) {
	for _, c := range m.s.Caps {
		if c.Held.Env == env && c.Held.Slot == slot {
			return c, true
		}
	}
	return api.CapState{}, false
}

func (m *model) freeSlot() int {
	return lowestFree(func(n int) bool { _, there := m.at(m.env, n); return there })
}

// refuses: Plan's errors, in their order.
func (m *model) refuses() api.Errno {
	x := m.caller()
	if x == nil {
		return api.ErrEnv
	}
	if image.Valid(m.f) != nil {
		return api.ErrImage
	}
	q, slots := m.f.Envs[0].Quota, 1
	for _, c := range m.s.Caps {
		if c.Held.Env == m.env {
			slots++
		}
	}
	if len(m.f.Pages) > 0 {
		q.Frames++
		slots++
	}
	if q.Frames > x.Left.Frames || q.Envs >= x.Left.Envs || q.Extents > x.Left.Extents || slots > api.MaxSlots {
		return api.ErrNoSpace
	}
	for _, c := range m.f.Caps {
		if !c.In && c.From == none && m.giver(c) < 0 {
			return api.ErrStaleCap
		}
	}
	return api.OK
}

// giver: -1, if there is none.
func (m *model) giver(c api.CapRec) int {
	for slot := range api.MaxSlots {
		h, there := m.at(m.env, slot)
		x := h.Held.Cap
		if there && x.Kind == c.Kind && x.Serial == m.f.Outs[c.Obj].Serial && x.Rights&4 != 0 && x.Rights|c.Rights == x.Rights {
			return slot
		}
	}
	return -1
}

// addFrames answers the classes' frames.
func (m *model) addFrames() []api.FrameState {
	var added []api.FrameState
	for class, page := range m.f.Pages {
		x := api.FrameState{Page: page, Frame: api.Frame{Serial: m.first + len(m.f.Envs) + class, Dirty: true}}
		x.Num = lowestFree(func(n int) bool {
			return slices.ContainsFunc(m.s.Frames, func(o api.FrameState) bool { return o.Num == n })
		})
		for _, c := range m.f.Caps {
			if c.In && c.Kind == api.KindFrame && c.Obj == class {
				x.Frame.Holds++
			}
		}
		m.s.Frames = append(m.s.Frames, x)
		added = append(added, x)
	}
	return added
}

func (m *model) addCaps(frames []api.FrameState) {
	given := &model{s: api.State{Caps: slices.Clone(m.s.Caps)}, env: m.env, f: m.f}
	for _, c := range m.f.Caps {
		x := api.CapState{Held: api.Held{Env: m.envs[c.Env], Slot: c.Slot, Cap: api.Cap{Kind: c.Kind, Rights: c.Rights}}, From: none}
		switch {
		case c.In && c.Kind == api.KindEnv:
			x.Held.Cap.Obj, x.Held.Cap.Serial = m.envs[c.Obj], m.first+c.Obj
		case c.In:
			x.Held.Cap.Obj, x.Held.Cap.Serial = frames[c.Obj].Num, frames[c.Obj].Frame.Serial
		default:
			x.Held.Cap.Serial = m.f.Outs[c.Obj].Serial
			x.Held.Cap.Obj = m.hold(c.Kind, x.Held.Cap.Serial)
			if c.From == none {
				x.From = api.Place{Env: m.env, Slot: given.giver(c)}
			}
		}
		if c.From != none {
			x.From = api.Place{Env: m.envs[c.From.Env], Slot: c.From.Slot}
		}
		m.s.Caps = append(m.s.Caps, x)
	}
}

// hold: one more on a thing outside; its number.
func (m *model) hold(kind, serial int) int {
	for i := range m.s.Frames {
		if x := &m.s.Frames[i]; kind == api.KindFrame && x.Frame.Serial == serial {
			x.Frame.Holds++
			return x.Num
		}
	}
	for i := range m.s.Extents {
		if x := &m.s.Extents[i]; kind == api.KindExtent && x.Serial == serial {
			x.Holds++
			return x.Num
		}
	}
	for _, x := range m.s.Envs {
		if kind == api.KindEnv && x.Env.Serial == serial {
			return x.Num
		}
	}
	return -1
}

func (m *model) addEnvs() {
	for place, e := range m.f.Envs {
		x := api.Env{Serial: m.first + place, Parent: m.env, State: e.State, Code: e.Code, Bits: e.Bits, Frozen: e.Frozen, Regs: e.Regs, Quota: e.Quota, Left: m.leftOf(place)}
		if place > 0 {
			x.Parent = m.envs[e.Parent]
		}
		m.s.Envs = append(m.s.Envs, api.EnvState{Num: m.envs[place], Env: x})
	}
	x, q := m.caller(), m.f.Envs[0].Quota
	x.Left = api.Quota{Frames: x.Left.Frames - q.Frames, Envs: x.Left.Envs - 1 - q.Envs, Extents: x.Left.Extents - q.Extents}
}

// leftOf: the quota less what is paid for capabilities and children.
func (m *model) leftOf(place int) api.Quota {
	q := m.f.Envs[place].Quota
	for _, c := range m.f.Caps {
		switch {
		case c.Env != place:
		case c.Kind == api.KindFrame:
			q.Frames--
		case c.Kind == api.KindExtent:
			q.Extents--
		}
	}
	for _, e := range m.f.Envs {
		if e.Parent == place {
			q = api.Quota{Frames: q.Frames - e.Quota.Frames, Envs: q.Envs - 1 - e.Quota.Envs, Extents: q.Extents - e.Quota.Extents}
		}
	}
	return q
}

func (m *model) sort() {
	slices.SortFunc(m.s.Envs, func(a, b api.EnvState) int { return a.Num - b.Num })
	slices.SortFunc(m.s.Frames, func(a, b api.FrameState) int { return a.Num - b.Num })
	slices.SortFunc(m.s.Caps, func(a, b api.CapState) int {
		return cmp.Or(a.Held.Env-b.Held.Env, a.Held.Slot-b.Held.Slot)
	})
	slices.SortFunc(m.s.Maps, func(a, b api.MapRec) int { return cmp.Or(a.Env-b.Env, a.V-b.V) })
}

// onlyItsOwn: P18.4, told from two states alone, not from a forest.
func onlyItsOwn(t *testing.T, what string, before, now api.State, env, slot int) {
	t.Helper()
	wrong := func(text string, x any) {
		t.Helper()
		t.Fatalf("P18.4: %s: %s: %+v", what, text, x)
	}
	list := map[api.Place]api.CapState{}
	for _, c := range now.Caps {
		list[api.Place{Env: c.Held.Env, Slot: c.Held.Slot}] = c
	}
	root := list[api.Place{Env: env, Slot: slot}]
	if root.Held.Cap.Kind != api.KindEnv || root.Held.Cap.Rights != 15 || root.From != none || root.Held.Cap.Serial < before.Serial {
		wrong("the capability on the root", root)
	}
	for _, c := range before.Caps {
		at := api.Place{Env: c.Held.Env, Slot: c.Held.Slot}
		if list[at] != c {
			wrong("a capability of before", list[at])
		}
		delete(list, at)
	}
	delete(list, api.Place{Env: env, Slot: slot})
	made := newEnvs(before, now)
	for _, c := range list {
		if !slices.Contains(made, c.Held.Env) {
			wrong("a capability outside", c)
		}
		if c.Held.Cap.Serial < before.Serial && !comesFrom(before, now, env, c) {
			wrong("a capability that comes from nowhere", c)
		}
	}
	if q := outsideLooks(before, made, env); !slices.Equal(q, outsideLooks(now, made, env)) {
		wrong("environments outside", now.Envs)
	}
	thingsStay(t, what, before, now)
}

// newEnvs: the numbers of those that were not there before.
func newEnvs(before, now api.State) []int {
	var l []int
	for _, e := range now.Envs {
		if e.Env.Serial >= before.Serial {
			l = append(l, e.Num)
		}
	}
	return l
}

// comesFrom goes up from parent to parent, each of which has Grant and all its child's rights, to one of the caller's of before.
func comesFrom(before, now api.State, env int, c api.CapState) bool {
	for c.From != none {
		at := slices.IndexFunc(now.Caps, func(x api.CapState) bool { return x.Held.Env == c.From.Env && x.Held.Slot == c.From.Slot })
		parent := now.Caps[at]
		a, b := parent.Held.Cap, c.Held.Cap
		if a.Kind != b.Kind || a.Obj != b.Obj || a.Serial != b.Serial || a.Rights&4 == 0 || a.Rights|b.Rights != a.Rights {
			return false
		}
		if parent.Held.Env == env {
			return slices.Contains(before.Caps, parent)
		}
		c = parent
	}
	return false
}

// outsideLooks: the environments that were not made just now, but for what the caller has left.
func outsideLooks(s api.State, made []int, env int) []api.EnvState {
	var l []api.EnvState
	for _, e := range s.Envs {
		if e.Num == env {
			e.Env.Left = api.Quota{}
		}
		if !slices.Contains(made, e.Num) {
			l = append(l, e)
		}
	}
	return l
}

// thingsStay: pages, frames and extents of before are as they were, but for holds that are more.
func thingsStay(t *testing.T, what string, before, now api.State) {
	t.Helper()
	made := newEnvs(before, now)
	now.Maps = slices.DeleteFunc(now.Maps, func(x api.MapRec) bool { return slices.Contains(made, x.Env) })
	now.Frames = slices.DeleteFunc(now.Frames, func(x api.FrameState) bool { return x.Frame.Serial >= before.Serial })
	for i, x := range now.Frames {
		if i < len(before.Frames) && x.Frame.Holds >= before.Frames[i].Frame.Holds {
			now.Frames[i].Frame.Holds = before.Frames[i].Frame.Holds
		}
	}
	for i, x := range now.Extents {
		if i < len(before.Extents) && x.Holds >= before.Extents[i].Holds {
			now.Extents[i].Holds = before.Extents[i].Holds
		}
	}
	if !slices.Equal(now.Maps, before.Maps) || !slices.Equal(now.Frames, before.Frames) || !slices.Equal(now.Extents, before.Extents) {
		t.Fatalf("P18.4: %s: things outside are %+v, and were %+v", what, now, before)
	}
}
