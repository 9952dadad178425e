package audit_test

import (
	"math"
	"slices"
	"testing"

	"amber/api"
	"amber/audit"
	"amber/disk"
	"amber/gate"
)

// The chapter's examples, and the edges that its rules name, one by one.

func TestBareKernel(t *testing.T) {
	s := gate.Boot(disk.New(), 1).State()
	checks(t, "example 1", s, nil)
	checks(t, "the zero state", api.State{}, rules(1, -1, -1, 12, 0, -1))
	paid(t, "example 1", s, 0, api.Quota{}, api.OK)
	below(t, "example 1", s, 0, 0, nil, api.ErrNoCap)
	reach(t, "example 1", s, 0, nil, api.OK)
	apart(t, "example 1", s, s, nil, nil)
	for _, n := range []int{1, 3, -1, 15, 16, math.MaxInt, math.MinInt} {
		paid(t, "example 1", s, n, api.Quota{}, api.ErrEnv)
		reach(t, "example 1", s, n, nil, api.ErrEnv)
		below(t, "example 1", s, n, 0, nil, api.ErrNoCap)
		below(t, "example 1", s, 0, n, nil, api.ErrNoCap)
		apart(t, "example 1", s, s, []int{n, n}, nil)
	}
}

func TestZeroState(t *testing.T) {
	var none api.State
	s := full(t)
	paid(t, "the zero state", none, 0, api.Quota{}, api.ErrEnv)
	below(t, "the zero state", none, 0, 0, nil, api.ErrNoCap)
	reach(t, "the zero state", none, 0, nil, api.ErrEnv)
	apart(t, "out of the zero state", none, s, nil, rules(8, 0, -1, 8, 1, -1))
	apart(t, "out of the zero state, inside", none, s, []int{0}, nil)
	apart(t, "into the zero state", s, none, []int{0}, rules(1, 0, -1, 1, 1, -1))
	apart(t, "zero states", none, none, []int{0, -1}, nil)
}

func TestSecondExample(t *testing.T) {
	s := example(t).State()
	checks(t, "example 2", s, nil)
	paid(t, "example 2", s, 0, api.Quota{Frames: 10, Envs: 3, Extents: 4}, api.OK)
	paid(t, "example 2", s, 1, api.Quota{Frames: 1}, api.OK)
	below(t, "example 2", s, 0, 0, places(0, 1, 1, 0), api.OK)
	below(t, "example 2", s, 0, 1, nil, api.OK)
	below(t, "example 2", s, 1, 1, nil, api.ErrNoCap)
	reach(t, "example 2", s, 0, []api.Cap{{Kind: 1, Obj: 0, Serial: 2, Rights: 15}, {Kind: 2, Obj: 1, Serial: 3, Rights: 15}}, api.OK)
	reach(t, "example 2", s, 1, []api.Cap{{Kind: 1, Obj: 0, Serial: 2, Rights: 3}}, api.OK)
}

func TestThirdExample(t *testing.T) {
	for _, c := range []struct {
		what   string
		change func(s *api.State)
		want   []api.Broken
	}{
		{"Holds 2", func(s *api.State) { s.Frames[0].Frame.Holds = 2 }, rules(9, 1, 0)},
		{"rights 31", func(s *api.State) { s.Caps[3].Held.Cap.Rights = 31 }, rules(6, 1, 0, 7, 1, 0)},
		{"a ring", func(s *api.State) { s.Caps[0].From = api.Place{Env: 1} }, rules(7, 0, 0, 7, 0, 1, 7, 1, 0)},
		{"Serial 3", func(s *api.State) { s.Serial = 3 }, rules(3, 2, 1)},
		{"Left.Frames 8", func(s *api.State) { s.Envs[1].Env.Left.Frames = 8 }, rules(11, 1, -1)},
	} {
		s := example(t).State()
		c.change(&s)
		checks(t, "example 3: "+c.what, s, c.want)
	}
}

func TestFourthAndFifthExample(t *testing.T) {
	k := example(t)
	do(t, k, 0, api.CallMapIn, 2, 1, 0, 1)
	dirty := k.State()
	k.Store(1, 32, 0)
	apart(t, "a word as it was, in a frame that was dirty", dirty, k.State(), []int{1}, nil)
	do(t, k, 0, api.NatClean, -1, 0, 0)
	clean := k.State()
	k.Store(1, 32, 0)
	apart(t, "example 4: the frame was clean", clean, k.State(), []int{1}, rules(4, 0, -1))
	a := k.State()
	k.Store(1, 32, 7)
	b := k.State()
	apart(t, "example 4: another word", a, b, []int{1}, rules(4, 0, -1))
	apart(t, "example 4: inside", a, b, []int{0}, nil)
	do(t, k, 0, api.CallSpawn, 1, 0, 0)
	c := k.State()
	apart(t, "example 5: inside", b, c, []int{2}, rules(6, 0, 3))
	apart(t, "example 5", b, c, nil, rules(6, 0, 3, 8, 2, -1))
	apart(t, "example 5, back", c, b, []int{2}, rules(1, 2, -1, 2, 0, 3))
}

// edge: what a change of full's state breaks.
type edge struct {
	what   string
	change func(s *api.State)
	want   []api.Broken
}

func edges(t *testing.T, list []edge) {
	t.Helper()
	checks(t, "nothing changed", full(t), nil)
	for _, c := range list {
		s := full(t)
		c.change(&s)
		checks(t, c.what, s, c.want)
		if got := checkModel(s); !slices.Equal(got, c.want) {
			t.Errorf("P19.1: %s: the model tells %v, want %v", c.what, got, c.want)
		}
	}
}

// born: one more environment, that environment 0 pays for.
func born(s *api.State, num int) *api.Env {
	s.Envs = append(s.Envs, api.EnvState{Num: num, Env: api.Env{Serial: s.Serial}})
	s.Envs[0].Env.Left.Envs--
	s.Serial++
	return &s.Envs[len(s.Envs)-1].Env
}

// given: one more capability without a parent, at the end of the list.
func given(s *api.State, env, slot int, c api.Cap) *api.CapState {
	s.Caps = append(s.Caps, api.CapState{Held: api.Held{Env: env, Slot: slot, Cap: c}, From: api.Place{Env: -1, Slot: -1}})
	return &s.Caps[len(s.Caps)-1]
}

// onEnv1: a capability that nobody pays for.
var onEnv1 = api.Cap{Kind: api.KindEnv, Obj: 1, Serial: 3, Rights: 15}

// TestEdgesOfEnvironments: the rules 1 to 4, 11 and 12.
func TestEdgesOfEnvironments(t *testing.T) {
	edges(t, []edge{
		{"number 15", func(s *api.State) { born(s, 15) }, nil},
		{"number 16", func(s *api.State) { born(s, 16) }, rules(1, 16, -1)},
		{"number -1", func(s *api.State) { born(s, -1) }, rules(1, -1, -1, 11, -1, -1)},
		{"a number twice", func(s *api.State) { born(s, 1).Left.Frames = -1 }, rules(1, 1, -1, 11, 1, -1)},
		{"number 0 twice", func(s *api.State) { born(s, 0).Parent = -1; s.Envs[0].Env.Left.Envs++ }, rules(1, 0, -1, 11, 0, -1)},
		{"another order", func(s *api.State) { s.Envs[0], s.Envs[1] = s.Envs[1], s.Envs[0] }, rules(1, 0, -1, 1, 1, -1)},
		{"environment 0 has a parent", func(s *api.State) { s.Envs[0].Env.Parent = 5 }, rules(2, 0, -1)},
		{"environment 0 is its own parent", func(s *api.State) { s.Envs[0].Env.Parent = 0 }, rules(2, 0, -1, 11, 0, -1)},
		{"its own parent", func(s *api.State) { s.Envs[1].Env.Parent = 1 }, rules(2, 1, -1, 11, 0, -1, 11, 1, -1)},
		{"no parent", func(s *api.State) { s.Envs[1].Env.Parent = -1 }, rules(2, 1, -1, 11, 0, -1)},
		{"a parent that isn't there", func(s *api.State) { s.Envs[1].Env.Parent = 2 }, rules(2, 1, -1, 11, 0, -1)},
		{"as old as its parent", func(s *api.State) { s.Envs[1].Env.Serial = 1; s.Caps[2].Held.Cap.Serial = 1 }, rules(2, 1, -1, 3, 2, 1)},
		{"older than its parent", func(s *api.State) {
			s.Envs[0].Env.Serial = 5
			s.Frames[0].Frame.Mark = 0
			s.Frames[0].Frame.Dirty = true
		}, rules(2, 1, -1)},
		{"a state that isn't", func(s *api.State) { s.Envs[1].Env.State = 5 }, rules(4, 1, -1)},
		{"state -1", func(s *api.State) { s.Envs[1].Env.State = -1 }, rules(4, 1, -1)},
		{"state 4, and the greatest words", func(s *api.State) {
			s.Envs[1].Env.State, s.Envs[1].Env.Code, s.Envs[1].Env.Bits = 4, 1<<32-1, 1<<32-1
		}, nil},
		{"no word as code", func(s *api.State) { s.Envs[1].Env.Code = 1 << 32 }, rules(4, 1, -1)},
		{"code -1", func(s *api.State) { s.Envs[1].Env.Code = -1 }, rules(4, 1, -1)},
		{"no word as bits", func(s *api.State) { s.Envs[1].Env.Bits = 1 << 32 }, rules(4, 1, -1)},
		{"bits -1", func(s *api.State) { s.Envs[0].Env.Bits = -1 }, rules(4, 0, -1)},
		{"a frame more left", func(s *api.State) { s.Envs[1].Env.Left.Frames++ }, rules(11, 1, -1)},
		{"an environment less left", func(s *api.State) { s.Envs[1].Env.Left.Envs-- }, rules(11, 1, -1)},
		{"an extent more left", func(s *api.State) { s.Envs[1].Env.Left.Extents++ }, rules(11, 1, -1)},
		{"paid more than there is", func(s *api.State) {
			s.Envs[1].Env.Quota.Frames, s.Envs[1].Env.Left.Frames = 0, -1
			s.Envs[0].Env.Left.Frames += 8
		}, rules(11, 1, -1)},
		{"a greater child than its parent", func(s *api.State) {
			s.Envs[1].Env.Quota.Envs, s.Envs[1].Env.Left.Envs = 15, 15
			s.Envs[0].Env.Left.Envs = -1
		}, rules(11, 0, -1)},
		{"extents below 0", func(s *api.State) {
			s.Envs[1].Env.Quota.Extents, s.Envs[1].Env.Left.Extents = -1, -1
			s.Envs[0].Env.Left.Extents += 5
		}, rules(11, 1, -1)},
		{"a sum that wraps round", func(s *api.State) {
			s.Envs[1].Env.Quota.Frames, s.Envs[1].Env.Left.Frames = math.MinInt, math.MaxInt
			s.Envs[0].Env.Left.Frames = math.MinInt + 62
		}, rules(11, 0, -1)},
		{"a frame less in all", func(s *api.State) { s.Envs[0].Env.Quota.Frames--; s.Envs[0].Env.Left.Frames-- }, rules(12, 0, -1)},
		{"an environment more in all", func(s *api.State) { s.Envs[0].Env.Quota.Envs++; s.Envs[0].Env.Left.Envs++ }, rules(12, 0, -1)},
		{"an extent more in all", func(s *api.State) { s.Envs[0].Env.Quota.Extents++; s.Envs[0].Env.Left.Extents++ }, rules(12, 0, -1)},
	})
}

// TestEdgesOfThings: the rules 3, 9 and 10.
func TestEdgesOfThings(t *testing.T) {
	edges(t, []edge{
		{"serial 0", func(s *api.State) { s.Envs[0].Env.Serial = 0 }, rules(3, 2, 0)},
		{"serial -1", func(s *api.State) { s.Envs[0].Env.Serial = -1 }, rules(3, 2, 0)},
		{"the next serial", func(s *api.State) { s.Extents[0].Serial, s.Caps[3].Held.Cap.Serial = 6, 6 }, rules(3, 3, 6)},
		{"the one ahead of the next", func(s *api.State) { s.Extents[0].Serial, s.Caps[3].Held.Cap.Serial = 5, 5 }, nil},
		{"an environment's serial again", func(s *api.State) { s.Extents[0].Serial, s.Caps[3].Held.Cap.Serial = 3, 3 }, rules(3, 3, 6)},
		{"a frame's serial again", func(s *api.State) { s.Extents[0].Serial, s.Caps[3].Held.Cap.Serial = 2, 2 }, rules(3, 3, 6)},
		{"one serial three times", func(s *api.State) {
			s.Extents[0].Serial, s.Caps[3].Held.Cap.Serial = 3, 3
			s.Frames[0].Frame.Serial = 3
			for _, i := range []int{0, 1, 4} {
				s.Caps[i].Held.Cap.Serial = 3
			}
		}, rules(3, 1, 0, 3, 3, 6)},
		{"no serial is given yet", func(s *api.State) { s.Serial = math.MinInt }, rules(3, 1, 0, 3, 2, 0, 3, 2, 1, 3, 3, 6, 10, 0, -1)},
		{"a hold more", func(s *api.State) { s.Frames[0].Frame.Holds++ }, rules(9, 1, 0)},
		{"a hold less", func(s *api.State) { s.Extents[0].Holds-- }, rules(9, 3, 6)},
		{"a frame that nobody holds", func(s *api.State) {
			s.Frames = append(s.Frames, api.FrameState{Num: 63, Frame: api.Frame{Serial: 6, Dirty: true}})
			s.Serial++
		}, rules(9, 1, 63)},
		{"a hold on a frame is none on an extent", func(s *api.State) {
			s.Extents = append([]api.ExtState{{Serial: 6, Holds: 3}}, s.Extents...)
			s.Serial++
		}, rules(9, 3, 0)},
		{"frame 63", func(s *api.State) { moveFrame(s, 63) }, nil},
		{"frame 64", func(s *api.State) { moveFrame(s, 64) }, rules(9, 1, 64)},
		{"frame -1", func(s *api.State) { moveFrame(s, -1) }, rules(9, 1, -1)},
		{"extent 31", func(s *api.State) { s.Extents[0].Num, s.Caps[3].Held.Cap.Obj = 31, 31 }, nil},
		{"extent 32", func(s *api.State) { s.Extents[0].Num, s.Caps[3].Held.Cap.Obj = 32, 32 }, rules(9, 3, 32)},
		{"extent -1", func(s *api.State) { s.Extents[0].Num, s.Caps[3].Held.Cap.Obj = -1, -1 }, rules(9, 3, -1)},
		{"a frame twice", func(s *api.State) {
			s.Frames = append(s.Frames, s.Frames[0])
			s.Frames[1].Frame.Serial, s.Frames[1].Frame.Mark, s.Frames[1].Frame.Dirty = 6, 0, true
			s.Serial++
		}, rules(9, 1, 0)},
		{"an extent twice", func(s *api.State) {
			s.Extents = append(s.Extents, api.ExtState{Num: 6, Serial: 6, Holds: 1})
			s.Serial++
		}, rules(9, 3, 6)},
		{"clean without a mark", func(s *api.State) { s.Frames[0].Frame.Mark = 0 }, rules(10, 0, -1)},
		{"dirty without a mark", func(s *api.State) { s.Frames[0].Frame.Mark, s.Frames[0].Frame.Dirty = 0, true }, nil},
		{"dirty with a mark", func(s *api.State) { s.Frames[0].Frame.Dirty = true }, nil},
		{"the serial as mark", func(s *api.State) { s.Frames[0].Frame.Mark = 2 }, rules(10, 0, -1)},
		{"a mark above the serial", func(s *api.State) { s.Frames[0].Frame.Mark = 3 }, nil},
		{"the next serial as mark", func(s *api.State) { s.Frames[0].Frame.Mark = 6 }, rules(10, 0, -1)},
		{"mark -1", func(s *api.State) { s.Frames[0].Frame.Mark, s.Frames[0].Frame.Dirty = -1, true }, rules(10, 0, -1)},
		{"a mark twice", func(s *api.State) {
			s.Frames = append(s.Frames, api.FrameState{Num: 7, Frame: api.Frame{Serial: 1, Holds: 1, Mark: 5}})
			s.Envs[0].Env.Serial, s.Frames[1].Frame.Serial = 1, 4
			s.Extents, s.Caps[3].Held.Cap = nil, api.Cap{Kind: 1, Obj: 7, Serial: 4}
			s.Envs[0].Env.Left.Extents++
			s.Envs[0].Env.Left.Frames--
		}, rules(10, 7, -1)},
	})
}

// moveFrame gives frame 0 another number.
func moveFrame(s *api.State, num int) {
	s.Frames[0].Num = num
	for _, i := range []int{0, 1, 4} {
		s.Caps[i].Held.Cap.Obj = num
	}
}

// TestEdgesOfCapabilities: the rules 5 and 6.
func TestEdgesOfCapabilities(t *testing.T) {
	edges(t, []edge{
		{"slot 47", func(s *api.State) { given(s, 1, 47, onEnv1) }, nil},
		{"slot 48", func(s *api.State) { given(s, 1, 48, onEnv1) }, rules(5, 1, 48)},
		{"slot -1", func(s *api.State) { given(s, 2, -1, onEnv1); born(s, 2) }, rules(5, 2, -1)},
		{"a holder that isn't there", func(s *api.State) { given(s, 2, 0, onEnv1) }, rules(5, 2, 0)},
		{"a slot below the one ahead", func(s *api.State) { given(s, 1, 9, onEnv1); given(s, 1, 8, onEnv1) }, rules(5, 1, 8)},
		{"a holder below the one ahead", func(s *api.State) { given(s, 0, 9, onEnv1) }, rules(5, 0, 9)},
		{"a place twice", func(s *api.State) { given(s, 1, 9, onEnv1); given(s, 1, 9, onEnv1) }, rules(5, 1, 9)},
		{"a lower slot of a higher holder", func(s *api.State) { given(s, 1, 9, onEnv1); born(s, 2); given(s, 2, 0, onEnv1) }, nil},
		{"kind 0", func(s *api.State) { given(s, 1, 9, api.Cap{Kind: 0, Obj: 1, Serial: 3}) }, rules(6, 1, 9)},
		{"kind 4", func(s *api.State) { given(s, 1, 9, api.Cap{Kind: 4, Obj: 1, Serial: 3}) }, rules(6, 1, 9)},
		{"no rights", func(s *api.State) { given(s, 1, 9, api.Cap{Kind: 2, Obj: 1, Serial: 3}) }, nil},
		{"rights 16", func(s *api.State) { given(s, 1, 9, api.Cap{Kind: 2, Obj: 1, Serial: 3, Rights: 16}) }, rules(6, 1, 9)},
		{"rights -1", func(s *api.State) { given(s, 1, 9, api.Cap{Kind: 2, Obj: 1, Serial: 3, Rights: -1}) }, rules(6, 1, 9)},
		{"no such environment", func(s *api.State) { given(s, 1, 9, api.Cap{Kind: 2, Obj: 2, Serial: 3}) }, rules(6, 1, 9)},
		{"another one's serial", func(s *api.State) { given(s, 1, 9, api.Cap{Kind: 2, Obj: 0, Serial: 3}) }, rules(6, 1, 9)},
		{"no such frame", func(s *api.State) {
			s.Caps[4] = *given(s, 1, 0, api.Cap{Kind: 1, Obj: 6, Serial: 4})
			s.Caps = s.Caps[:5]
			s.Maps = nil
		}, rules(6, 1, 0, 9, 1, 0)},
		{"no such extent", func(s *api.State) { s.Caps[3].Held.Cap.Obj = 0 }, rules(6, 0, 3, 9, 3, 6)},
		{"another extent's serial", func(s *api.State) { s.Caps[3].Held.Cap.Serial = 2 }, rules(6, 0, 3)},
		{"another frame's serial", func(s *api.State) { s.Caps[0].Held.Cap.Serial = 4 }, rules(6, 0, 0, 7, 0, 1, 7, 1, 0)},
	})
}

// TestEdgesOfDerivations: rule 7.
func TestEdgesOfDerivations(t *testing.T) {
	from := func(at int, env, slot int) func(s *api.State) {
		return func(s *api.State) { s.Caps[at].From = api.Place{Env: env, Slot: slot} }
	}
	edges(t, []edge{
		{"no parent", from(4, -1, -1), nil},
		{"a parent in no list", from(4, 2, 0), rules(7, 1, 0)},
		{"a parent in no slot", from(4, 0, 9), rules(7, 1, 0)},
		{"half a place", from(4, -1, 0), rules(7, 1, 0)},
		{"the other half", from(4, 0, -1), rules(7, 1, 0)},
		{"a parent with too few rights", from(4, 0, 1), rules(7, 1, 0)},
		{"a parent on another thing", from(4, 0, 2), rules(7, 1, 0)},
		{"a parent with just these rights", func(s *api.State) { s.Caps[0].Held.Cap.Rights = 7 }, nil},
		{"a parent without Grant", func(s *api.State) { s.Caps[0].Held.Cap.Rights = 11; s.Caps[1].Held.Cap.Rights = 1 }, rules(7, 0, 1, 7, 1, 0)},
		{"its own parent", from(0, 0, 0), rules(7, 0, 0, 7, 0, 1, 7, 1, 0)},
		{"its own parent, with nothing below", from(2, 0, 2), rules(7, 0, 2)},
		{"two that have one another", func(s *api.State) {
			given(s, 1, 8, onEnv1).From = api.Place{Env: 1, Slot: 9}
			given(s, 1, 9, onEnv1).From = api.Place{Env: 1, Slot: 8}
			given(s, 1, 10, onEnv1).From = api.Place{Env: 1, Slot: 9}
			given(s, 1, 11, onEnv1).From = api.Place{Env: 0, Slot: 2}
		}, rules(7, 1, 8, 7, 1, 9, 7, 1, 10)},
		{"a parent that lies behind its child", func(s *api.State) { s.Caps[2].From = api.Place{Env: 1, Slot: 9}; given(s, 1, 9, onEnv1) }, nil},
		{"two at one place, the second leads round", func(s *api.State) {
			given(s, 1, 9, onEnv1)
			given(s, 1, 9, onEnv1).From = api.Place{Env: 1, Slot: 10}
			given(s, 1, 10, onEnv1).From = api.Place{Env: 1, Slot: 9}
		}, rules(5, 1, 9)},
		{"two at one place, the first leads round", func(s *api.State) {
			given(s, 1, 9, onEnv1).From = api.Place{Env: 1, Slot: 10}
			given(s, 1, 9, onEnv1)
			given(s, 1, 10, onEnv1).From = api.Place{Env: 1, Slot: 9}
		}, rules(5, 1, 9, 7, 1, 9, 7, 1, 10)},
		{"two at one place, and the second alone has no parent", func(s *api.State) {
			for _, i := range []int{0, 2, 3} {
				s.Caps[i].From = api.Place{Env: 7, Slot: 7}
			}
			given(s, 1, 9, onEnv1).From = api.Place{Env: 0, Slot: 2}
			given(s, 1, 9, onEnv1)
		}, rules(5, 1, 9, 7, 0, 0, 7, 0, 2, 7, 0, 3)},
		{"one at {-1, -1}", func(s *api.State) { given(s, -1, -1, onEnv1).From = api.Place{Env: 5, Slot: 5} }, rules(5, -1, -1, 7, -1, -1)},
		{"one at {-1, -1} that is its own parent", func(s *api.State) { given(s, -1, -1, onEnv1) },
			rules(5, -1, -1, 7, -1, -1, 7, 0, 0, 7, 0, 1, 7, 0, 2, 7, 0, 3, 7, 1, 0)},
		{"round by {-1, -1}", func(s *api.State) { given(s, -1, -1, onEnv1).From = api.Place{Env: 0, Slot: 2} },
			rules(5, -1, -1, 7, -1, -1, 7, 0, 0, 7, 0, 1, 7, 0, 2, 7, 0, 3, 7, 1, 0)},
	})
}

// TestEdgesOfPages: rule 8.
func TestEdgesOfPages(t *testing.T) {
	maps := func(m ...api.MapRec) func(s *api.State) { return func(s *api.State) { s.Maps = m } }
	edges(t, []edge{
		{"the pages 0 and 15", maps(api.MapRec{Env: 0, V: 15}, api.MapRec{Env: 1, V: 0, Write: true}, api.MapRec{Env: 1, V: 15}), nil},
		{"page 16", maps(api.MapRec{Env: 1, V: 16}), rules(8, 1, 16)},
		{"page -1", maps(api.MapRec{Env: 1, V: -1}), rules(8, 1, -1)},
		{"nobody's page", maps(api.MapRec{Env: 2, V: 0}), rules(8, 2, 0)},
		{"a page below the one ahead", maps(api.MapRec{Env: 1, V: 3}, api.MapRec{Env: 1, V: 2}), rules(8, 1, 2)},
		{"a page twice", maps(api.MapRec{Env: 1, V: 3}, api.MapRec{Env: 1, V: 3}), rules(8, 1, 3)},
		{"an environment below the one ahead", maps(api.MapRec{Env: 1, V: 3}, api.MapRec{Env: 0, V: 4}), rules(8, 0, 4)},
		{"an empty slot", maps(api.MapRec{Env: 1, V: 3, Slot: 1}), rules(8, 1, 3)},
		{"an environment as page", maps(api.MapRec{Env: 0, V: 3, Slot: 2}), rules(8, 0, 3)},
		{"an extent as page", maps(api.MapRec{Env: 0, V: 3, Slot: 3}), rules(8, 0, 3)},
		{"to be written, without Write", maps(api.MapRec{Env: 0, V: 3, Slot: 1, Write: true}), rules(8, 0, 3)},
		{"to be read, without Write", maps(api.MapRec{Env: 0, V: 3, Slot: 1}), nil},
		{"to be read, without Read", func(s *api.State) { s.Caps[4].Held.Cap.Rights = 2 }, rules(8, 1, 5)},
	})
}

// TestBelowEdges: rings, doubles, places that are none.
func TestBelowEdges(t *testing.T) {
	s := full(t)
	s.Caps[0].From = api.Place{Env: 1, Slot: 0}
	below(t, "a ring", s, 0, 0, places(0, 1, 1, 0), api.OK)
	below(t, "a ring", s, 1, 0, places(0, 0, 0, 1), api.OK)
	below(t, "beside a ring", s, 0, 1, nil, api.OK)
	s = full(t)
	given(&s, 9, 99, onEnv1).From = api.Place{Env: 1, Slot: 0}
	given(&s, 9, 99, onEnv1).From = api.Place{Env: 1, Slot: 0}
	given(&s, 0, 2, onEnv1).From = api.Place{Env: 9, Slot: 99}
	below(t, "a place twice", s, 0, 0, places(0, 1, 0, 2, 1, 0, 9, 99), api.OK)
	below(t, "a place that is none", s, 9, 99, places(0, 2), api.OK)
	below(t, "a second one at its place", s, 0, 2, nil, api.OK)
	below(t, "no capability", s, -1, -1, nil, api.ErrNoCap)
	given(&s, -1, -1, onEnv1).From = api.Place{Env: 0, Slot: 2}
	below(t, "one at {-1, -1}", s, 0, 2, places(-1, -1, 0, 0, 0, 1, 0, 3, 1, 0, 9, 99), api.OK)
	below(t, "at {-1, -1}", s, -1, -1, places(0, 0, 0, 1, 0, 2, 0, 3, 1, 0, 9, 99), api.OK)
}

// TestReachEdges: rights together, things with odd names, trees that are none.
func TestReachEdges(t *testing.T) {
	s := full(t)
	s.Caps[0].Held.Cap.Rights = 8
	reach(t, "together", s, 0, []api.Cap{{Kind: 1, Obj: 0, Serial: 2, Rights: 15}, {Kind: 2, Obj: 1, Serial: 3, Rights: 15}, {Kind: 3, Obj: 6, Serial: 4, Rights: 15}}, api.OK)
	given(&s, 1, 5, api.Cap{Kind: 1, Obj: 0, Serial: 1, Rights: 16})
	given(&s, 1, 4, api.Cap{Kind: -7, Obj: 9, Serial: 9, Rights: -8})
	given(&s, 2, 4, api.Cap{Kind: -7, Obj: 9, Serial: 9, Rights: 7})
	reach(t, "odd things", s, 1, []api.Cap{{Kind: -7, Obj: 9, Serial: 9, Rights: -8}, {Kind: 1, Obj: 0, Serial: 1, Rights: 16}, {Kind: 1, Obj: 0, Serial: 2, Rights: 3}}, api.OK)
	reach(t, "a holder that isn't there", s, 2, nil, api.ErrEnv)
	born(&s, 2).Parent = 1
	reach(t, "a grandchild", s, 1, []api.Cap{{Kind: -7, Obj: 9, Serial: 9, Rights: -1}, {Kind: 1, Obj: 0, Serial: 1, Rights: 16}, {Kind: 1, Obj: 0, Serial: 2, Rights: 3}}, api.OK)
	s.Envs[0].Env.Parent = 2
	all, _ := audit.Reach(s, 0)
	reach(t, "a ring of parents", s, 2, all, api.OK)
	s.Envs = append(s.Envs, api.EnvState{Num: 2, Env: api.Env{Parent: 77}})
	s.Envs[0].Env.Parent, s.Envs[2].Env.Parent = -1, 78
	reach(t, "a second one of its number, elsewhere", s, 1, []api.Cap{{Kind: -7, Obj: 9, Serial: 9, Rights: -8}, {Kind: 1, Obj: 0, Serial: 1, Rights: 16}, {Kind: 1, Obj: 0, Serial: 2, Rights: 3}}, api.OK)
	s.Envs[3].Env.Parent = 1
	reach(t, "a second one of its number, below", s, 1, []api.Cap{{Kind: -7, Obj: 9, Serial: 9, Rights: -1}, {Kind: 1, Obj: 0, Serial: 1, Rights: 16}, {Kind: 1, Obj: 0, Serial: 2, Rights: 3}}, api.OK)
}

// TestPaidEdges: elements count wherever they stand, and sums wrap round.
func TestPaidEdges(t *testing.T) {
	s := full(t)
	paid(t, "an extent", s, 0, api.Quota{Frames: 10, Envs: 3, Extents: 5}, api.OK)
	given(&s, 1, 0, api.Cap{Kind: 3, Obj: 77})
	given(&s, 1, 99, api.Cap{Kind: 4})
	born(&s, 7).Quota = api.Quota{Frames: math.MaxInt, Envs: math.MaxInt, Extents: math.MinInt}
	paid(t, "odd ones", s, 1, api.Quota{Frames: 1, Extents: 1}, api.OK)
	paid(t, "sums that wrap round", s, 0, api.Quota{Frames: math.MinInt + 9, Envs: math.MinInt + 3, Extents: math.MinInt + 5}, api.OK)
	s.Envs[2].Env.Parent = 7
	paid(t, "its own parent", s, 7, api.Quota{Frames: math.MaxInt, Envs: math.MinInt, Extents: math.MinInt}, api.OK)
	born(&s, -1)
	paid(t, "number -1 pays for environment 0", s, -1, api.Quota{Frames: 64, Envs: 16, Extents: 32}, api.OK)
}
