package rewind_test

import (
	"bytes"
	"fmt"
	"math"
	"slices"
	"testing"

	"amber/api"
	"amber/ckpt"
	"amber/replay"
	"amber/restore"
	"amber/rewind"
	"amber/store"
)

// The model: a trip once more, in the words of the chapter, on a machine that is the same; and scripts in which others do what they like.

// model: a trip that is done by hand.
type model struct {
	village
	serial, gen int
	legs        []api.Leg
	told        [][]api.Event
	behind      int
}

func (v village) lives() bool {
	_, code := v.k.Env(v.env)
	return code == api.OK
}

// modelStart: the errors by what State tells, then the checkpoint.
func modelStart(v village) (*model, api.Errno) {
	if code := v.ruleStart(); code != api.OK {
		return nil, code
	}
	_, code := ckpt.Checkpoint(v.k, v.s, v.env, v.slot, true)
	if code != api.OK {
		return nil, code
	}
	return &model{village: v, serial: v.k.SerialOf(v.env, v.slot), gen: v.s.Gen()}, api.OK
}

func (v village) ruleStart() api.Errno {
	if !v.s.Serves(v.k, v.env) {
		return api.ErrArg
	}
	if !v.lives() {
		return api.ErrEnv
	}
	c, there := capAt(v.k, v.env, v.slot)
	if !there {
		return api.ErrNoCap
	}
	on := c.Held.Cap
	if on.Kind != api.KindEnv {
		return api.ErrKind
	}
	if on.Rights&11 != 11 {
		return api.ErrRights
	}
	tree, _ := v.k.Tree(on.Obj)
	if slices.Contains(tree, v.env) {
		return api.ErrSelf
	}
	if x, _ := v.k.Env(on.Obj); x.Parent != v.env || c.From.Env != -1 {
		return api.ErrState
	}
	if v.hasOuts(tree) {
		return api.ErrStaleCap
	}
	return api.OK
}

func (v village) hasOuts(tree []int) bool {
	var mine []api.Cap
	for _, c := range v.k.State().Caps {
		if slices.Contains(tree, c.Held.Env) {
			mine = append(mine, c.Held.Cap)
		}
	}
	return slices.ContainsFunc(mine, func(c api.Cap) bool {
		owned := slices.ContainsFunc(mine, func(o api.Cap) bool { return o.Serial == c.Serial && o.Rights >= api.Own })
		return c.Kind == api.KindExtent || c.Kind == api.KindFrame && !owned || c.Kind == api.KindEnv && !slices.Contains(tree, c.Obj)
	})
}

func (y *model) stands() api.Errno {
	if !y.s.Serves(y.k, y.env) {
		return api.ErrArg
	}
	if !y.lives() {
		return api.ErrEnv
	}
	for env := y.env; env != -1; {
		x, _ := y.k.Env(env)
		if x.Frozen {
			return api.ErrState
		}
		env = x.Parent
	}
	c, there := capAt(y.k, y.env, y.slot)
	on := c.Held.Cap
	if !there || on.Kind != 2 || on.Serial != y.serial || on.Rights&11 != 11 || y.s.Gen() != y.gen {
		return api.ErrState
	}
	return api.OK
}

func (y *model) flag(slot, on int) int {
	return y.k.Call(y.env, request(api.NatFreeze, slot, 0, on)).V[0]
}

func (y *model) root(slot int) int {
	c, _ := capAt(y.k, y.env, slot)
	return c.Held.Cap.Obj
}

func (y *model) log(from, to int) []byte {
	b, _ := replay.Encode(y.legs[from:to])
	return b
}

func (y *model) run(p []api.Pick, answers []uint32) ([]api.Event, api.Errno) {
	if code := y.stands(); code != api.OK {
		return nil, code
	}
	was := y.flag(y.slot, 0)
	log, events, code := replay.Record(y.log(0, y.behind), y.k, y.root(y.slot), p, answers)
	y.flag(y.slot, was)
	if code != api.OK {
		return nil, code
	}
	y.legs, _ = replay.Decode(log)
	y.told = append(y.told[:y.behind:y.behind], events)
	y.behind++
	return events, api.OK
}

// moveTo replays the log of the first m legs at once, and takes the last events of what it tells.
func (y *model) moveTo(m int) ([]api.Event, api.Errno) {
	if code := y.stands(); code != api.OK {
		return nil, code
	}
	slot, code := restore.Restore(y.k, y.s, y.env)
	if code != api.OK {
		return nil, code
	}
	y.flag(slot, 0)
	events, _, code := replay.Replay(y.log(0, m), y.k, y.root(slot))
	if code != api.OK {
		y.k.Call(y.env, request(api.CallKill, slot))
		return nil, code
	}
	on := 0
	if x, _ := y.k.Env(y.root(y.slot)); x.Frozen {
		on = 1
	}
	y.flag(slot, on)
	y.k.Call(y.env, request(api.CallKill, y.slot))
	n := 0
	for i := y.behind; i < m; i++ {
		n += len(y.told[i])
	}
	y.slot, y.serial, y.behind = slot, y.k.SerialOf(y.env, slot), m
	return events[len(events)-n:], api.OK
}

func (y *model) find(w api.Watch) (int, api.Errno) {
	if w.On < 1 || w.On > 4 || w.On == 2 && (w.Reg < 0 || w.Reg > 7) {
		return -1, api.ErrArg
	}
	if code := y.stands(); code != api.OK {
		return -1, code
	}
	slot, code := restore.Restore(y.k, y.s, y.env)
	if code != api.OK {
		return -1, code
	}
	y.flag(slot, 0)
	n := -1
	for i := 0; ; i++ {
		tree, _ := y.k.Tree(y.root(slot))
		if (point{state: y.k.State(), tree: tree}).shown(w) {
			n = i
			break
		}
		if i == len(y.legs) {
			break
		}
		if _, _, code = replay.Replay(y.log(i, i+1), y.k, y.root(slot)); code != api.OK {
			break
		}
	}
	y.k.Call(y.env, request(api.CallKill, slot))
	return n, code
}

// pair: a trip and its model, on two machines that are the same.
type pair struct {
	x           *rewind.Trip
	y           *model
	here, there village        // with the stores that are open now
	told        map[string]int // how often what was answered
}

// both does something on both machines.
func (p *pair) both(f func(v village)) {
	f(p.here)
	f(p.there)
}

// start begins anew: both, or neither.
func (p *pair) start(t *testing.T, what string, slot int) {
	t.Helper()
	there := p.there
	there.slot = slot
	x, code := rewind.Start(p.here.k, p.here.s, p.here.env, slot)
	y, want := modelStart(there)
	p.told[fmt.Sprint("Start ", int(code))]++
	if code != want || (x != nil) != (code == api.OK) {
		t.Fatalf("P25.1: %s: Start(%d) = %v, %d, want %d", what, slot, x, code, want)
	}
	if y != nil {
		p.x, p.y = x, y
	}
}

// alike holds what was answered, and all that can be seen, against the model.
func (p *pair) alike(t *testing.T, what, call string, got, want []api.Event, n, m int, code, wanted api.Errno) {
	t.Helper()
	p.told[fmt.Sprint(call, " ", int(code))]++
	if code != wanted || n != m || !slices.Equal(got, want) {
		t.Fatalf("P25.1: %s: %s = %+v, %d, %d, want %+v, %d, %d", what, call, got, n, int(code), want, m, int(wanted))
	}
	p.same(t, what+": "+call)
}

func (p *pair) same(t *testing.T, what string) {
	t.Helper()
	p.here.unchanged(t, "P25.1: "+what, p.there.shape(), 0)
	behind, all := p.x.At()
	if behind != p.y.behind || all != len(p.y.legs) || p.x.Slot() != p.y.slot || !bytes.Equal(p.x.Log(), p.y.log(0, len(p.y.legs))) {
		t.Fatalf("P25.1: %s: At %d, %d, Slot %d, want %d, %d, %d; or Log is another", what, behind, all, p.x.Slot(), p.y.behind, len(p.y.legs), p.y.slot)
	}
}

// trip does one of a trip's calls, mostly with numbers that may be.
func (p *pair) trip(t *testing.T, d *dice, what string) {
	t.Helper()
	behind, all := p.x.At()
	switch d.below(8) {
	case 0, 1, 2, 3:
		l, answers := d.picks(d.below(6)), d.answers()
		if d.one(12) {
			l = append(l, api.Pick{Steps: 4097})
		}
		if d.one(20) {
			l = make([]api.Pick, 4094)
		}
		got, code := p.x.Go(l, answers)
		want, wanted := p.y.run(l, answers)
		p.alike(t, what, "Go", got, want, 0, 0, code, wanted)
	case 4, 5:
		n := d.of(0, 1, behind, d.below(behind+1), d.of(-1, behind+1, math.MaxInt, math.MinInt))
		code, wanted := p.x.Back(n), api.ErrArg
		if n >= 0 && n <= behind {
			_, wanted = p.y.moveTo(behind - n)
		}
		p.alike(t, what, "Back", nil, nil, 0, 0, code, wanted)
	case 6:
		n := d.of(0, 1, all-behind, d.below(all-behind+1), d.of(-1, all-behind+1, math.MaxInt, math.MinInt))
		got, code := p.x.Forth(n)
		var want []api.Event
		wanted := api.ErrArg
		if n >= 0 && n <= all-behind {
			want, wanted = p.y.moveTo(behind + n)
		}
		p.alike(t, what, "Forth", got, want, 0, 0, code, wanted)
	case 7:
		w := api.Watch{On: d.of(1, 2, 3, 4, 5, 0), K: d.of(0, 0, 1, 2, 3, -1), Reg: d.below(9), Addr: uint32(d.below(140)), Value: uint32(d.of(0, 1, 2, 3, d.below(40)))}
		n, code := p.x.Find(w)
		m, wanted := p.y.find(w)
		p.alike(t, what, "Find", nil, nil, n, m, code, wanted)
	}
}

// trouble: what others do: flags, registers, capabilities and room, the disk, the store.
func (p *pair) trouble(t *testing.T, d *dice, what string) {
	t.Helper()
	env, slot, a, b, c := p.here.env, p.x.Slot(), d.below(64), d.below(64), d.below(64)
	call := func(env, call int, a ...int) {
		p.both(func(v village) { v.k.Call(env, request(call, a...)) })
	}
	switch d.below(15) {
	case 0:
		call(0, api.NatFreeze, -1, a%4, b%4/3)
	case 1:
		call(env, api.CallSetReg, slot, a%8, b)
	case 12, 13:
		call(env, api.CallSetReg, slot, 8, b/2)
	case 2:
		call(env, api.CallDrop, a%12)
	case 3:
		call(env, api.CallSpawn, a/2, a%5, a%3*9)
	case 4:
		call(env, api.NatSelf, -1, a%3, c%4/3, -1, 15-b%2*c%4)
	case 5:
		call(env, api.CallDerive, slot, 15-b%2*c%4)
	case 6:
		p.both(func(v village) { v.d.Edit(a%16, b, []byte{byte(c)}) })
	case 7:
		p.both(func(v village) { v.d.Arm(a % 2 * 9); v.d.Flush() })
	case 8:
		if a%4 == 0 {
			p.both(func(v village) { v.s.Commit([]byte("no image"), b%2 == 0) })
		}
	case 9:
		if a%4 == 0 {
			p.both(func(v village) { v.s.Close() })
		}
	case 10:
		if a%8 == 0 {
			call(0, api.CallKill, b%2)
		}
	default:
		p.start(t, what, d.of(slot, a%12, p.envSlot(b), p.envSlot(c)))
	}
	p.same(t, what+": trouble")
}

// envSlot: one of those of the caller's slots that name environments; 0, if none does.
func (p *pair) envSlot(n int) int {
	var l []int
	for _, c := range p.here.k.State().Caps {
		if c.Held.Env == p.here.env && c.Held.Cap.Kind == api.KindEnv {
			l = append(l, c.Held.Slot)
		}
	}
	if len(l) == 0 {
		return 0
	}
	return l[n%len(l)]
}

// mend takes flags, the disk and the store back to where a trip can be.
func (p *pair) mend(t *testing.T, d *dice, what string) {
	t.Helper()
	p.both(func(v village) {
		v.d.Crash(nil)
		v.k.Call(0, request(api.NatFreeze, -1, 0, 0))
		v.k.Call(0, request(api.NatFreeze, -1, 1, 0))
	})
	if d.one(2) {
		// Spare trees are ended, so that there is room.
		for slot := range 20 {
			if slot != p.x.Slot() {
				p.both(func(v village) { v.k.Call(v.env, request(api.CallKill, slot)) })
			}
		}
	}
	if !p.here.s.Serves(p.here.k, p.here.env) {
		s, _ := store.Open(p.here.k, p.here.env, 31)
		z, _ := store.Open(p.there.k, p.there.env, 31)
		if s != nil && z != nil {
			p.here.s, p.there.s = s, z
		}
	}
	p.start(t, what, p.x.Slot())
}

// TestScriptsAgainstTheModel: whatever is done between, each call answers and leaves what the model says.
func TestScriptsAgainstTheModel(t *testing.T) {
	told := map[string]int{}
	for seed := range 100 {
		d, e := dice(seed+900), dice(seed+900)
		p := &pair{here: found(t, &d, false), there: found(t, &e, false), told: told}
		p.start(t, "the first Start", p.here.slot)
		for n := range 70 {
			what := fmt.Sprintf("seed %d, act %d", seed, n)
			switch {
			case d.one(4):
				p.trouble(t, &d, what)
			case d.one(12):
				p.mend(t, &d, what)
			default:
				p.trip(t, &d, what)
			}
		}
	}
	for call, codes := range map[string][]api.Errno{
		"Start": {api.OK, api.ErrArg, api.ErrEnv, api.ErrNoCap, api.ErrKind, api.ErrRights, api.ErrSelf, api.ErrState, api.ErrStaleCap, api.ErrNoSpace, api.ErrDown},
		"Go":    {api.OK, api.ErrArg, api.ErrEnv, api.ErrState, api.ErrNoSpace},
		"Back":  {api.OK, api.ErrArg, api.ErrEnv, api.ErrState, api.ErrNoCap, api.ErrDown, api.ErrImage, api.ErrNoSpace, api.ErrDiverge},
		"Forth": {api.OK, api.ErrArg, api.ErrEnv, api.ErrState, api.ErrNoCap, api.ErrDown, api.ErrImage, api.ErrNoSpace, api.ErrDiverge},
		"Find":  {api.OK, api.ErrArg, api.ErrEnv, api.ErrState, api.ErrNoCap, api.ErrDown, api.ErrImage, api.ErrNoSpace, api.ErrDiverge},
	} {
		for _, code := range codes {
			if n := told[fmt.Sprint(call, " ", int(code))]; n < 3 {
				t.Errorf("P25.1: %s answered %d only %d times", call, int(code), n)
			}
		}
	}
}
