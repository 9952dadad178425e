package audit_test

import (
	"slices"
	"testing"

	"amber/api"
)

// What Apart tells of one change after the other, and what it lets pass.

// parting: what a change of full's state is told as: with no trees, with the tree of environment 1, and the other way with no trees.
type parting struct {
	what               string
	change             func(s *api.State)
	all, outside, back []api.Broken
}

func TestPartings(t *testing.T) {
	for _, c := range slices.Concat(envPartings(), recordPartings(), thingPartings()) {
		a, b := full(t), full(t)
		c.change(&b)
		apart(t, c.what, a, b, nil, c.all)
		apart(t, c.what+", inside", a, b, []int{1}, c.outside)
		apart(t, c.what+", back", b, a, nil, c.back)
		apart(t, c.what+", all inside", a, b, []int{0}, nil)
		apart(t, c.what+", all inside twice", a, b, []int{1, 0, 0, 99, -1}, nil)
		if got := apartModel(a, b, nil); !slices.Equal(got, c.all) {
			t.Errorf("P19.1: %s: the model tells %v, want %v", c.what, got, c.all)
		}
	}
}

// envPartings: rules 1 and 8.
func envPartings() []parting {
	one := func(what string, change func(e *api.Env)) parting {
		return parting{what, func(s *api.State) { change(&s.Envs[1].Env) }, rules(1, 1, -1), nil, rules(1, 1, -1)}
	}
	return []parting{
		one("a state", func(e *api.Env) { e.State = 1 }),
		one("a code", func(e *api.Env) { e.Code = 1 }),
		one("bits", func(e *api.Env) { e.Bits = 1 }),
		one("a flag", func(e *api.Env) { e.Frozen = true }),
		one("a register", func(e *api.Env) { e.Regs.R[7] = 1 }),
		one("the PC", func(e *api.Env) { e.Regs.PC = 1 }),
		one("a quota of frames", func(e *api.Env) { e.Quota.Frames++ }),
		one("a quota of environments", func(e *api.Env) { e.Quota.Envs++ }),
		one("a quota of extents", func(e *api.Env) { e.Quota.Extents++ }),
		{"what is left", func(s *api.State) { s.Envs[1].Env.Left = api.Quota{Frames: 9, Envs: 9, Extents: 9} }, nil, nil, nil},
		{"the next serial", func(s *api.State) { s.Serial++ }, nil, nil, nil},
		{"a child", func(s *api.State) { born(s, 2) }, rules(8, 2, -1), rules(8, 2, -1), rules(1, 2, -1)},
		{"a grandchild", func(s *api.State) { born(s, 2).Parent = 1 }, rules(8, 2, -1), nil, rules(1, 2, -1)},
		// With another serial its list is another's: none of its capabilities and pages are told, nor the frame that none but it would hold.
		{"another of that number", func(s *api.State) { s.Envs[1].Env.Serial = 9; s.Caps[4].Held.Cap.Rights = 1; s.Maps = nil }, rules(1, 1, -1), nil, rules(1, 1, -1)},
	}
}

// recordPartings: rules 2, 3, 6 and 7.
func recordPartings() []parting {
	held := func(what string, change func(c *api.Cap)) parting {
		return parting{what, func(s *api.State) { change(&s.Caps[4].Held.Cap) }, rules(2, 1, 0), nil, rules(2, 1, 0)}
	}
	return []parting{
		held("another kind", func(c *api.Cap) { c.Kind = 2 }),
		held("another number", func(c *api.Cap) { c.Obj = 2 }),
		held("another serial", func(c *api.Cap) { c.Serial = 7 }),
		held("fewer rights", func(c *api.Cap) { c.Rights = 1 }),
		held("more rights", func(c *api.Cap) { c.Rights = 7 }),
		{"another From", func(s *api.State) { s.Caps[4].From = api.Place{Env: -1, Slot: -1} }, nil, nil, nil},
		{"a capability less", func(s *api.State) { s.Caps = s.Caps[:4] }, rules(2, 1, 0), nil, rules(6, 1, 0)},
		{"one more", func(s *api.State) { given(s, 1, 4, onEnv1) }, rules(6, 1, 4), nil, rules(2, 1, 4)},
		{"one more outside", func(s *api.State) { given(s, 0, 4, onEnv1) }, rules(6, 0, 4), rules(6, 0, 4), rules(2, 0, 4)},
		{"one more of nobody", func(s *api.State) { given(s, 5, 4, onEnv1) }, nil, nil, nil},
		{"a second one at a place", func(s *api.State) { given(s, 1, 0, onEnv1) }, nil, nil, rules(2, 1, 0)},
		{"a page less", func(s *api.State) { s.Maps = nil }, rules(3, 1, 5), nil, rules(7, 1, 5)},
		{"another slot of a page", func(s *api.State) { s.Maps[0].Slot = 9 }, rules(3, 1, 5), nil, rules(3, 1, 5)},
		{"a page to be read", func(s *api.State) { s.Maps[0].Write = false }, rules(3, 1, 5), nil, rules(3, 1, 5)},
		{"a page more", func(s *api.State) { s.Maps = append(s.Maps, api.MapRec{Env: 1, V: 6}) }, rules(7, 1, 6), nil, rules(3, 1, 6)},
		{"nobody's page", func(s *api.State) { s.Maps = append(s.Maps, api.MapRec{Env: 6, V: 6}) }, nil, nil, nil},
		{"a page moved", func(s *api.State) { s.Maps[0].V = 4 }, rules(3, 1, 5, 7, 1, 4), nil, rules(3, 1, 4, 7, 1, 5)},
	}
}

// thingPartings: rules 4 and 5. The frame is environment 1's too, so it is told whichever of the two is inside.
func thingPartings() []parting {
	frame := func(what string, change func(f *api.FrameState)) parting {
		return parting{what, func(s *api.State) { change(&s.Frames[0]) }, rules(4, 0, -1), rules(4, 0, -1), rules(4, 0, -1)}
	}
	return []parting{
		frame("another serial", func(f *api.FrameState) { f.Frame.Serial = 9 }),
		frame("dirty", func(f *api.FrameState) { f.Frame.Dirty = true }),
		frame("another mark", func(f *api.FrameState) { f.Frame.Mark = 4 }),
		frame("the last word", func(f *api.FrameState) { f.Page[31] = 1 }),
		frame("the first word", func(f *api.FrameState) { f.Page[0] = 1 }),
		{"holds", func(s *api.State) { s.Frames[0].Frame.Holds, s.Extents[0].Holds = 9, 9 }, nil, nil, nil},
		{"no frame", func(s *api.State) { s.Frames = nil }, rules(4, 0, -1), rules(4, 0, -1), nil},
		{"a frame more", func(s *api.State) { s.Frames = append(s.Frames, api.FrameState{Num: 9}) }, nil, nil, nil},
		{"a frame of that number ahead of it", func(s *api.State) { s.Frames = append([]api.FrameState{{Num: 0}}, s.Frames...) }, rules(4, 0, -1), rules(4, 0, -1), rules(4, 0, -1)},
		{"another extent", func(s *api.State) { s.Extents[0].Serial = 9 }, rules(5, 6, -1), rules(5, 6, -1), rules(5, 6, -1)},
		{"no extent", func(s *api.State) { s.Extents = nil }, rules(5, 6, -1), rules(5, 6, -1), nil},
		{"an extent of another number", func(s *api.State) { s.Extents[0].Num = 7 }, rules(5, 6, -1), rules(5, 6, -1), nil},
	}
}

// TestWhoHolds: a frame or extent counts where one that stays holds it, whatever serial it is held by.
func TestWhoHolds(t *testing.T) {
	a := full(t)
	a.Caps = a.Caps[4:]
	b := cloned(a)
	b.Frames[0].Page[3] = 1
	b.Extents = nil
	apart(t, "held outside", a, b, nil, rules(4, 0, -1))
	apart(t, "held inside alone", a, b, []int{1}, nil)
	a.Caps[0].Held.Cap.Kind = 3
	b.Caps[0].Held.Cap.Kind = 3
	apart(t, "an extent of the frame's number", a, b, nil, nil)
	a.Caps[0].Held.Cap.Obj, b.Caps[0].Held.Cap.Obj = 6, 6
	apart(t, "by an odd serial", a, b, nil, rules(5, 6, -1))
	b.Envs[1].Env.Serial = 9
	apart(t, "by one that went", a, b, nil, rules(1, 1, -1))
	b.Envs = b.Envs[:1]
	apart(t, "by one that isn't there", a, b, nil, rules(1, 1, -1))
}

// TestTreesAreThoseOfB: who is inside is told by b alone.
func TestTreesAreThoseOfB(t *testing.T) {
	a := full(t)
	born(&a, 2).Parent = 1
	born(&a, 3)
	b := cloned(a)
	b.Envs[2].Env.Parent = 0
	b.Envs[3].Env.Parent = 1
	b.Envs[2].Env.Code, b.Envs[3].Env.Code = 1, 1
	apart(t, "moved", a, b, []int{1}, rules(1, 2, -1))
	apart(t, "moved", a, b, []int{2}, rules(1, 3, -1))
	apart(t, "moved", a, b, []int{2, 3}, nil)
	b.Envs = append(b.Envs[:1:1], b.Envs[2:]...)
	apart(t, "a root that isn't there", a, b, []int{1}, rules(1, 1, -1, 1, 2, -1, 1, 3, -1))
	b.Envs[0].Env.Parent = 3
	apart(t, "a ring of parents", a, b, []int{3}, rules(1, 1, -1))
}
