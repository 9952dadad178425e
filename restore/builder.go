package restore

import (
	"amber/api"
	"amber/gate"
)

// builder: a tree in the making.
type builder struct {
	caller
	forest api.Forest
	before []api.Held // the caller's list ahead of the first step: what is made is no giver
	root   int        // the slot of the capability on the new tree's root
	there  [api.MaxEnvs][api.MaxSlots]bool
	undo   []func() api.Errno
}

// step: something that is made of one record after the other.
type step struct {
	records int
	do      func(i int) api.Errno
}

func newBuilder(k *gate.Kernel, env int, f api.Forest) *builder {
	b := &builder{caller: caller{k, env}, forest: f}
	b.before = b.list()
	return b
}

// build: no call is refused behind a Plan that was OK; if one were, nothing half made would be left.
func (b *builder) build() (int, api.Errno) {
	for _, s := range b.steps() {
		for i := range s.records {
			if code := s.do(i); code != api.OK {
				b.undoAll()
				return noSlot, code
			}
		}
	}
	return b.root, api.OK
}

// steps: each leans on those ahead of it: lists on environments, derived ones on those that stand alone, pages on slots.
func (b *builder) steps() []step {
	f := b.forest
	return []step{
		{len(f.Envs), b.environment},
		{len(f.Pages), b.class},
		{len(f.Caps), b.inner},
		{len(f.Caps), b.outer},
		{derivedOnes(f.Caps), b.round},
		{len(f.Maps), b.page},
		{len(f.Envs), b.state},
		{len(f.Envs), b.flag},
	}
}

func (b *builder) undoAll() {
	for len(b.undo) > 0 {
		b.undoLast()
	}
}

func (b *builder) undoLast() api.Errno {
	last := len(b.undo) - 1
	undo := b.undo[last]
	b.undo = b.undo[:last]
	return undo()
}

// environment: whatever is made in the tree goes with its root, so that is all there is to undo.
func (b *builder) environment(place int) api.Errno {
	e := b.forest.Envs[place]
	q := e.Quota
	if place > 0 {
		return b.ask(api.NatNew, nil, b.root, e.Parent, q.Frames, q.Envs, q.Extents).Code
	}
	reply := b.ask(api.CallSpawn, nil, q.Frames, q.Envs, q.Extents)
	if reply.Code == api.OK {
		b.root = reply.V[0]
		b.undo = append(b.undo, func() api.Errno { return b.ask(api.CallKill, nil, b.root).Code })
	}
	return reply.Code
}

// class: the caller holds the frame till the tree has it, and gives up its own as it would if something were refused.
func (b *builder) class(n int) api.Errno {
	reply := b.ask(api.CallAlloc, nil)
	if reply.Code != api.OK {
		return reply.Code
	}
	slot := reply.V[0]
	b.undo = append(b.undo, func() api.Errno { return b.ask(api.CallDrop, nil, slot).Code })
	if code := b.ask(api.NatFill, packed(b.forest.Pages[n][:]), slot).Code; code != api.OK {
		return code
	}
	for _, c := range b.forest.Caps {
		if !isInner(c, api.KindFrame) || c.Obj != n {
			continue
		}
		if code := b.place(slot, c); code != api.OK {
			return code
		}
	}
	return b.undoLast()
}

// place lays a capability that stands alone, derived from the caller's slot.
func (b *builder) place(slot int, c api.CapRec) api.Errno {
	return b.laid(c, b.ask(api.NatPlace, nil, slot, b.root, c.Env, c.Slot, c.Rights))
}

func (b *builder) laid(c api.CapRec, reply api.Reply) api.Errno {
	b.there[c.Env][c.Slot] = reply.Code == api.OK
	return reply.Code
}

func (b *builder) inner(i int) api.Errno {
	c := b.forest.Caps[i]
	if !isInner(c, api.KindEnv) {
		return api.OK
	}
	return b.laid(c, b.ask(api.NatSelf, nil, b.root, c.Obj, c.Env, c.Slot, c.Rights))
}

func (b *builder) outer(i int) api.Errno {
	c := b.forest.Caps[i]
	if !isOut(c) {
		return api.OK
	}
	return b.place(giver(b.before, b.forest.Outs[c.Obj], c.Rights), c)
}

// derivedOnes: each round makes at least one of them, for no From leads round in a ring; so as many rounds are enough.
func derivedOnes(caps []api.CapRec) int {
	n := 0
	for _, c := range caps {
		if !alone(c) {
			n++
		}
	}
	return n
}

// round makes those whose From is there by now: it may lie behind them.
func (b *builder) round(int) api.Errno {
	for _, c := range b.forest.Caps {
		if alone(c) || b.there[c.Env][c.Slot] || !b.there[c.From.Env][c.From.Slot] {
			continue
		}
		reply := b.ask(api.NatCopy, nil, b.root, c.From.Env, c.From.Slot, c.Env, c.Slot, c.Rights)
		if code := b.laid(c, reply); code != api.OK {
			return code
		}
	}
	return api.OK
}

func (b *builder) page(i int) api.Errno {
	m := b.forest.Maps[i]
	return b.ask(api.NatMapIn, nil, b.root, m.Env, m.V, m.Slot, flagOf(m.Write)).Code
}

func (b *builder) state(place int) api.Errno {
	e := b.forest.Envs[place]
	registers := packed(append(e.Regs.R[:], e.Regs.PC))
	return b.ask(api.NatSet, registers, b.root, place, e.State, e.Code, e.Bits).Code
}

func (b *builder) flag(place int) api.Errno {
	if !b.forest.Envs[place].Frozen {
		return api.OK
	}
	return b.ask(api.NatFreeze, nil, b.root, place, flagOf(true)).Code
}

func flagOf(on bool) int {
	if on {
		return 1
	}
	return 0
}

// packed: the lowest byte of each word first.
func packed(words []uint32) []byte {
	var data []byte
	for _, w := range words {
		data = append(data, byte(w), byte(w>>8), byte(w>>16), byte(w>>24))
	}
	return data
}
