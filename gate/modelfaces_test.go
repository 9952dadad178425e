package gate_test

import (
	"slices"

	"amber/api"
)

// caught: what a thing that may be refused answers.
func caught(do func()) (code api.Errno) {
	defer func() {
		if x := recover(); x != nil {
			code = x.(api.Errno)
		}
	}()
	do()
	return api.OK
}

func (m *model) Serial() int { return m.next }

// word: where an address leads.
func (m *model) word(env int, addr uint32, write bool) *uint32 {
	x := m.env(env)
	unless(x != nil, api.ErrEnv)
	p := m.page(x, int(addr/32))
	unless(p.write || !write, api.ErrReadOnly)
	p.by.on.dirty = p.by.on.dirty || write
	return &p.by.on.words[addr%32]
}

func (m *model) Load(env int, addr uint32) (v uint32, code api.Errno) {
	code = caught(func() { v = *m.word(env, addr, false) })
	return v, code
}

func (m *model) Store(env int, addr uint32, v uint32) api.Errno {
	return caught(func() { *m.word(env, addr, true) = v })
}

func (m *model) Env(env int) (api.Env, api.Errno) {
	x := m.env(env)
	if x == nil {
		return api.Env{}, api.ErrEnv
	}
	return m.tell(x), api.OK
}

func (m *model) tell(x *thing) api.Env {
	left, parent := m.left(x), -1
	if x.up != nil {
		parent = x.up.num
	}
	return api.Env{
		Serial: x.serial, Parent: parent, State: x.state, Code: x.code, Bits: x.bits, Frozen: x.frozen,
		Regs:  api.Regs{R: [8]uint32(x.regs[:8]), PC: x.regs[8]},
		Quota: api.Quota{Frames: x.quota[0], Envs: x.quota[1], Extents: x.quota[2]},
		Left:  api.Quota{Frames: left[0], Envs: left[1], Extents: left[2]},
	}
}

func (m *model) SetRegs(env int, r api.Regs) api.Errno {
	x := m.env(env)
	if x == nil {
		return api.ErrEnv
	}
	copy(x.regs[:], append(slices.Clone(r.R[:]), r.PC))
	return api.OK
}

func (m *model) Fault(env int, code api.Errno) api.Errno {
	x := m.env(env)
	if x == nil {
		return api.ErrEnv
	}
	if code < 0 || code > 1<<32-1 {
		return api.ErrArg
	}
	x.state, x.code = 4, int(code)
	return api.OK
}

func (m *model) Runs(env int) bool {
	x := m.env(env)
	runs := x != nil && x.state == 1
	for ; x != nil; x = x.up {
		runs = runs && !x.frozen
	}
	return runs
}

func (m *model) Tree(env int) ([]int, api.Errno) {
	x := m.env(env)
	if x == nil {
		return nil, api.ErrEnv
	}
	var out []int
	for _, y := range m.tree(x) {
		out = append(out, y.num)
	}
	return out, api.OK
}

func (m *model) SerialOf(env, slot int) int {
	if c := m.held(m.env(env), slot); c != nil {
		return c.on.serial
	}
	return 0
}

func (m *model) State() api.State {
	s := api.State{Serial: m.next}
	for _, x := range m.things(2) {
		s.Envs = append(s.Envs, api.EnvState{Num: x.num, Env: m.tell(x)})
		for _, c := range m.list(x) {
			from := api.Place{Env: -1, Slot: -1}
			if l := line(c); len(l) > 1 {
				from = api.Place{Env: l[1].holder.num, Slot: l[1].slot}
			}
			s.Caps = append(s.Caps, api.CapState{Held: api.Held{Env: x.num, Slot: c.slot, Cap: api.Cap{Kind: c.on.kind, Obj: c.on.num, Serial: c.on.serial, Rights: c.rights}}, From: from})
		}
		for v := range 16 {
			for _, p := range m.maps {
				if p.env == x && p.v == v {
					s.Maps = append(s.Maps, api.MapRec{Env: x.num, V: v, Slot: p.by.slot, Write: p.write})
				}
			}
		}
	}
	for _, f := range m.things(1) {
		s.Frames = append(s.Frames, api.FrameState{Num: f.num, Frame: api.Frame{Serial: f.serial, Holds: m.holds(f), Dirty: f.dirty, Mark: f.mark}, Page: f.words})
	}
	for _, x := range m.things(3) {
		s.Extents = append(s.Extents, api.ExtState{Num: x.num, Serial: x.serial, Holds: m.holds(x)})
	}
	return s
}

func (m *model) holds(x *thing) int {
	n := 0
	for _, c := range m.rights {
		n += bit(c.on == x)
	}
	return n
}
