package restore_test

import (
	"fmt"
	"math"
	"testing"

	"amber/api"
	"amber/ckpt"
	"amber/restore"
	"amber/store"
	"amber/walk"
)

// TestExampleBuild: the chapter's example 1.
func TestExampleBuild(t *testing.T) {
	m := example(t, 9)
	f := read(t, m.k, 0, 1)
	want := api.Forest{
		Envs: []api.EnvRec{{Parent: -1, State: api.Ready, Frozen: true, Regs: api.Regs{PC: 96}, Quota: api.Quota{Frames: 6, Envs: 1}}},
		Caps: []api.CapRec{
			{Slot: 0, Kind: 1, Rights: 9, In: true, Obj: 0, From: none},
			{Slot: 1, Kind: 1, Rights: 15, In: true, Obj: 1, From: none},
			{Slot: 2, Kind: 1, Rights: 5, In: true, Obj: 1, From: api.Place{Slot: 1}},
		},
		Maps:  []api.MapRec{{V: 3, Slot: 1, Write: true}},
		Pages: []api.Page{{}, {1: 7}},
	}
	if !same(f, want) || left(m.k, 0) != (api.Quota{Frames: 57, Envs: 13, Extents: 32}) {
		t.Fatalf("the forest is %+v, left %v", f, left(m.k, 0))
	}
	if slot := m.builds(t, "example 1", 0, f); slot != 2 || left(m.k, 0) != (api.Quota{Frames: 51, Envs: 11, Extents: 32}) {
		t.Errorf("P18.1: slot %d, left %v", slot, left(m.k, 0))
	}
	x, _ := m.k.Env(2)
	frames := m.k.State().Frames
	if x.Serial != 5 || len(frames) != 4 || frames[2].Num != 2 || frames[2].Frame.Serial != 6 || frames[3].Num != 3 || frames[3].Frame.Serial != 7 || m.k.Serial() != 8 {
		t.Errorf("P18.1: the new environment has serial %d, the frames are %+v, the next serial is %d", x.Serial, frames, m.k.Serial())
	}
	if v, code := m.k.Load(2, 97); v != 7 || code != api.OK {
		t.Errorf("P18.2: Load(2, 97) = %d, %d", v, code)
	}
	stored(t, m.k, 2, 97, 8)
	if v, _ := m.k.Load(1, 97); v != 7 {
		t.Errorf("P18.4: Load(1, 97) = %d: the frame is not the new tree's alone", v)
	}
}

// TestExampleRoom: example 2.
func TestExampleRoom(t *testing.T) {
	m := example(t, 9)
	f := read(t, m.k, 0, 1)
	do(t, m.k, 0, api.CallSpawn, 52, 0, 0)
	if left(m.k, 0) != (api.Quota{Frames: 5, Envs: 12, Extents: 32}) {
		t.Fatalf("left %v", left(m.k, 0))
	}
	m.refuses(t, "P18.5: example 2", 0, f, api.ErrNoSpace)
}

// TestExampleOut: example 3.
func TestExampleOut(t *testing.T) {
	m := example(t, 1)
	f := read(t, m.k, 0, 1)
	if len(f.Outs) != 1 || f.Outs[0] != (api.OutRec{Kind: 1, Serial: 2}) {
		t.Fatalf("outs %v", f.Outs)
	}
	slot := m.builds(t, "example 3", 0, f)
	if c := at(m, 2, 0); c.From != (api.Place{Env: 0, Slot: 0}) {
		t.Errorf("P18.4: the new tree's slot 0 is %+v", c)
	}
	m.refuses(t, "P18.5: example 3", 1, f, api.ErrNoSpace)
	do(t, m.k, 0, api.CallKill, slot)
	do(t, m.k, 0, api.CallDrop, 0)
	m.refuses(t, "P18.6: example 3", 0, f, api.ErrStaleCap)
	m.refuses(t, "P18.5: example 3", 1, f, api.ErrNoSpace)
}

// TestExampleOutOfRights: example 3's last words: with room enough, a slot without Grant is no giver.
func TestExampleOutOfRights(t *testing.T) {
	m := newMachine()
	do(t, m.k, 0, api.CallAlloc)
	do(t, m.k, 0, api.CallSpawn, 20, 4, 0)
	for _, rights := range []int{1, 3, 9, 11, 4, 6} {
		do(t, m.k, 0, api.CallGrant, 0, 1, rights)
	}
	f := read(t, example(t, 1).k, 0, 1)
	m.refuses(t, "P18.6: no Grant, or not all rights", 1, f, api.ErrStaleCap)
	do(t, m.k, 0, api.CallGrant, 0, 1, 5)
	m.builds(t, "P18.6: a giver", 1, f)
	if c := at(m, 2, 0); c.From != (api.Place{Env: 1, Slot: 6}) {
		t.Errorf("P18.6: derived from %+v", c)
	}
}

// at: what lies in a slot.
func at(m machine, env, slot int) api.CapState {
	for _, c := range m.k.State().Caps {
		if c.Held.Env == env && c.Held.Slot == slot {
			return c
		}
	}
	return api.CapState{}
}

// TestExampleRefusals: example 4.
func TestExampleRefusals(t *testing.T) {
	m := example(t, 9)
	f := read(t, m.k, 0, 1)
	changed := func(change func(f *api.Forest)) api.Forest {
		g := cloned(f)
		change(&g)
		return g
	}
	m.refuses(t, "P18.1: another thing", 0, changed(func(f *api.Forest) { f.Caps[2].From = api.Place{} }), api.ErrImage)
	m.refuses(t, "P18.1: a small quota", 0, changed(func(f *api.Forest) { f.Envs[0].Quota = api.Quota{Frames: 2, Envs: 1} }), api.ErrImage)
	m.refuses(t, "P18.1: no environments", 0, api.Forest{}, api.ErrImage)
	m.refuses(t, "P18.1: a root that is not frozen", 0, changed(func(f *api.Forest) { f.Envs[0].Frozen = false }), api.ErrImage)
	m.refuses(t, "P18.1: env 9", 9, f, api.ErrEnv)
	m.refuses(t, "P18.1: env 9", 9, api.Forest{}, api.ErrEnv)
	for _, env := range []int{0, 9} {
		if slot, code := restore.Build(nil, env, f); slot != -1 || code != api.ErrArg {
			t.Errorf("P18.1: no kernel: %d, %d", slot, code)
		}
		if code := restore.Plan(nil, env, api.Forest{}); code != api.ErrArg {
			t.Errorf("P18.1: no kernel: %d", code)
		}
	}
	slot := m.builds(t, "more rights", 0, changed(func(f *api.Forest) { f.Caps[2].Rights = 7 }))
	if c := at(m, 2, 2); slot != 2 || c.Held.Cap.Rights != 7 {
		t.Errorf("P18.1: slot %d: %+v", slot, c)
	}
}

// TestExampleRestore: example 5, and incremental images behind it.
func TestExampleRestore(t *testing.T) {
	m := example(t, 9)
	f := read(t, m.k, 0, 1)
	s := opened(t, m.k, 0, 0)
	m.refusesRestore(t, "P18.1: nothing", m.k, s, 0, api.ErrNoImage)
	m.refusesRestore(t, "P18.1: no store", m.k, nil, 0, api.ErrArg)
	m.refusesRestore(t, "P18.1: no kernel", nil, s, 0, api.ErrArg)
	m.refusesRestore(t, "P18.1: another environment", m.k, s, 1, api.ErrArg)
	m.refusesRestore(t, "P18.1: another kernel", example(t, 9).k, s, 0, api.ErrArg)
	saved(t, m.k, s, 0, 1, true)
	for word := range uint32(5) {
		do(t, m.k, 0, api.CallKill, 1)
		if slot, code := m.restore(t, "example 5", m.k, s, 0); slot != 1 || code != api.OK {
			t.Fatalf("P18.2: Restore = %d, %d", slot, code)
		}
		m.looksAs(t, "example 5", 0, 1, f)
		stored(t, m.k, envAt(m.k, 0, 1), 97+word, 70+word)
		f = read(t, m.k, 0, 1)
		saved(t, m.k, s, 0, 1, false)
	}
	s.Close()
	m.refusesRestore(t, "P18.1: closed", m.k, s, 0, api.ErrArg)
}

// TestOrderOfErrors: Plan's and Build's faults, in all sets: the first counts.
func TestOrderOfErrors(t *testing.T) {
	order := []api.Errno{api.ErrArg, api.ErrEnv, api.ErrImage, api.ErrNoSpace, api.ErrStaleCap}
	for set := range 1 << len(order) {
		want := api.OK
		for i := len(order) - 1; i >= 0; i-- {
			if set>>i&1 == 1 {
				want = order[i]
			}
		}
		m := example(t, 1)
		f, env, k := read(t, m.k, 0, 1), 0, m.k
		if set&2 > 0 {
			env = 2
		}
		if set&4 > 0 {
			f.Envs[0].Parent = 0
		}
		if set&8 > 0 {
			do(t, m.k, 0, api.CallSpawn, 52, 0, 0)
		}
		if set&16 > 0 {
			do(t, m.k, 0, api.CallDrop, 0)
		}
		if set&2 > 0 && set&8 > 0 {
			env = 3
		}
		if set&1 > 0 {
			k = nil
		}
		if code := restore.Plan(k, env, f); code != want {
			t.Errorf("P18.1: faults %05b: Plan = %d, want %d", set, code, want)
		}
		if k == nil {
			continue
		}
		if slot, code := m.build(t, fmt.Sprintf("faults %05b", set), env, f); code != want || (slot == -1) != (code != api.OK) {
			t.Errorf("P18.1: faults %05b: Build = %d, %d, want %d", set, slot, code, want)
		}
	}
}

// TestOrderOfRestore: Restore's faults, in all sets that there are together.
func TestOrderOfRestore(t *testing.T) {
	faults := []struct {
		code api.Errno
		do   func(t *testing.T, m machine, s *store.Store, caller, slot int)
	}{
		{api.ErrEnv, func(t *testing.T, m machine, s *store.Store, caller, slot int) {
			do(t, m.k, 0, api.CallKill, slot)
		}},
		{api.ErrNoCap, func(t *testing.T, m machine, s *store.Store, caller, slot int) { do(t, m.k, caller, api.CallDrop, 0) }},
		{api.ErrDown, func(t *testing.T, m machine, s *store.Store, caller, slot int) { m.goDown() }},
		{api.ErrImage, func(t *testing.T, m machine, s *store.Store, caller, slot int) {
			for extent := range 2 {
				m.d.Edit(32*extent, 4, []byte{9})
			}
		}},
		{api.ErrNoSpace, func(t *testing.T, m machine, s *store.Store, caller, slot int) {
			do(t, m.k, caller, api.CallSpawn, left(m.k, caller).Frames, 0, 0)
		}},
		{api.ErrStaleCap, func(t *testing.T, m machine, s *store.Store, caller, slot int) { do(t, m.k, caller, api.CallDrop, 1) }},
	}
	for set := range 1 << len(faults) {
		m := newMachine()
		slot := do(t, m.k, 0, api.CallSpawn, 40, 6, 9)
		s := opened(t, m.k, 1, 31)
		do(t, m.k, 1, api.CallAlloc)
		tree := do(t, m.k, 1, api.CallSpawn, 4, 0, 0)
		do(t, m.k, 1, api.CallGrant, 1, tree, 1)
		do(t, m.k, 2, api.CallAlloc)
		saved(t, m.k, s, 1, tree, true)
		saved(t, m.k, s, 1, tree, false)
		want := api.OK
		for i := len(faults) - 1; i >= 0; i-- {
			if set>>i&1 == 1 {
				faults[i].do(t, m, s, 1, slot)
				want = faults[i].code
			}
		}
		got, code := m.restore(t, fmt.Sprintf("faults %06b", set), m.k, s, 1)
		if code != want || (got == -1) != (code != api.OK) {
			t.Errorf("P18.1: faults %06b: Restore = %d, %d, want %d", set, got, code, want)
		}
		if got, code := m.restore(t, fmt.Sprintf("faults %06b, in the name of 0", set), m.k, s, 0); got != -1 || code != api.ErrArg {
			t.Errorf("P18.1: faults %06b, in the name of 0: Restore = %d, %d", set, got, code)
		}
	}
}

// TestWhoseStore: an environment that ended, and another that has its number.
func TestWhoseStore(t *testing.T) {
	m := newMachine()
	slot := do(t, m.k, 0, api.CallSpawn, 20, 6, 9)
	s := opened(t, m.k, 1, 31)
	tree := do(t, m.k, 1, api.CallSpawn, 2, 0, 0)
	saved(t, m.k, s, 1, tree, false)
	do(t, m.k, 0, api.CallKill, slot)
	m.refusesRestore(t, "P18.1: it ended", m.k, s, 1, api.ErrEnv)
	do(t, m.k, 0, api.CallSpawn, 20, 6, 9)
	m.refusesRestore(t, "P18.1: another has its number", m.k, s, 1, api.ErrArg)
	s.Close()
	m.refusesRestore(t, "P18.1: closed", m.k, s, 1, api.ErrArg)
	s = opened(t, m.k, 1, 31)
	if got, code := m.restore(t, "opened anew", m.k, s, 1); code != api.OK || read(t, m.k, 1, got).Envs[0].Quota.Frames != 2 {
		t.Errorf("P18.1: opened anew: %d, %d", got, code)
	}
}

// TestNotAChain: images that don't follow one another are told as images that are none.
func TestNotAChain(t *testing.T) {
	for _, spoil := range []func(m machine, s *store.Store, raws [][]byte){
		func(m machine, s *store.Store, raws [][]byte) { s.Commit(raws[0], false) },
		func(m machine, s *store.Store, raws [][]byte) { s.Commit(raws[1], true) },
		func(m machine, s *store.Store, raws [][]byte) { s.Commit([]byte("x"), true) },
		func(m machine, s *store.Store, raws [][]byte) { s.Commit(raws[1], false) },
		func(m machine, s *store.Store, raws [][]byte) { m.d.Edit(32, 77, []byte{9}) },
	} {
		m := example(t, 9)
		s := opened(t, m.k, 0, 31)
		saved(t, m.k, s, 0, 1, true)
		saved(t, m.k, s, 0, 1, false)
		raws, _ := s.Chain()
		if slot, code := m.restore(t, "a chain", m.k, s, 0); code != api.OK || slot != 5 {
			t.Fatalf("P18.1: Restore = %d, %d", slot, code)
		}
		spoil(m, s, raws)
		m.refusesRestore(t, "P18.1: no chain", m.k, s, 0, api.ErrImage)
	}
}

// TestDerivedBehind: a From that lies behind, many times over, one in another's list: rounds are made till all are there.
func TestDerivedBehind(t *testing.T) {
	m := newMachine()
	f := api.Forest{Envs: []api.EnvRec{{Parent: -1, Frozen: true, Quota: api.Quota{Frames: 60, Envs: 1}}, {Quota: api.Quota{Frames: 20}}}, Pages: []api.Page{{5: 5}}}
	for slot := range 40 {
		f.Caps = append(f.Caps, api.CapRec{Slot: slot, Kind: 1, Rights: 15, In: true, From: api.Place{Slot: slot + 1}})
	}
	f.Caps[39].From = api.Place{Env: 1, Slot: 0}
	for slot := range 20 {
		f.Caps = append(f.Caps, api.CapRec{Env: 1, Slot: slot, Kind: 1, Rights: 15, In: true, From: api.Place{Env: 1, Slot: slot + 1}})
	}
	f.Caps[59].From = none
	m.builds(t, "P18.2: derived behind", 0, f)
	// All goes with the one that all are derived from.
	do(t, m.k, 2, api.CallRevoke, 19)
	if n := len(m.k.State().Caps); n != 2 {
		t.Errorf("P18.2: %d capabilities are left", n)
	}
}

// TestGreatTree: as much as a tree below environment 0 can have: 15 environments, all lists full, all frames but one, all pages mapped.
func TestGreatTree(t *testing.T) {
	m := newMachine()
	f := api.Forest{Envs: []api.EnvRec{{Parent: -1, Frozen: true, Quota: api.Quota{Frames: 63, Envs: 14, Extents: 32}}}}
	for range 14 {
		f.Envs = append(f.Envs, api.EnvRec{State: api.Waiting, Code: api.MaxWord, Bits: api.MaxWord, Frozen: true})
	}
	f.Envs[1].Quota.Frames = 15
	for place := range f.Envs {
		for slot := range 48 {
			c := api.CapRec{Env: place, Slot: slot, Kind: 2, Rights: 15, In: true, Obj: (place + slot) % 15, From: none}
			if place == 0 || place == 1 && slot < 15 {
				c.Kind, c.Obj = 1, len(f.Pages)
				f.Pages = append(f.Pages, api.Page{uint32(c.Obj), 31: math.MaxUint32})
			}
			f.Caps = append(f.Caps, c)
		}
	}
	for v := range 16 {
		f.Maps = append(f.Maps, api.MapRec{V: v, Slot: 2 * v, Write: v%2 == 0})
	}
	for v := range 15 {
		f.Maps = append(f.Maps, api.MapRec{Env: 1, V: v, Slot: v, Write: true})
	}
	slot := m.builds(t, "P18.2: a great tree", 0, f)
	if x := left(m.k, 0); slot != 0 || x != (api.Quota{Frames: 1}) || len(m.k.State().Frames) != 63 {
		t.Errorf("P18.2: slot %d, left %v", slot, x)
	}
}

// TestSmallestTree: one environment without anything needs one environment and one slot.
func TestSmallestTree(t *testing.T) {
	m := newMachine()
	f := api.Forest{Envs: []api.EnvRec{{Parent: -1, Frozen: true}}}
	do(t, m.k, 0, api.CallSpawn, 64, 13, 32)
	for range 46 {
		do(t, m.k, 0, api.NatSelf, -1, 0, 0, -1, 0)
	}
	if slot := m.builds(t, "P18.5: the smallest", 0, f); slot != 47 {
		t.Errorf("P18.5: slot %d", slot)
	}
	m.refuses(t, "P18.5: the smallest", 0, f, api.ErrNoSpace)
	m.refuses(t, "P18.5: the smallest", 2, f, api.ErrNoSpace)
	m.builds(t, "P18.5: the smallest", 1, f)
}

// TestStatesAndFlags: each state, bits that nobody is woken by, flags of all places in all sets.
func TestStatesAndFlags(t *testing.T) {
	for set := range 32 {
		m := newMachine()
		f := api.Forest{Envs: []api.EnvRec{{Parent: -1, Frozen: true, Quota: api.Quota{Envs: 6}}}}
		for i := range 5 {
			e := api.EnvRec{Parent: i % 2 * i, State: (set + i) % 5, Code: i * set, Bits: 7 * i, Frozen: set>>i&1 == 1, Regs: api.Regs{R: [8]uint32{1, 2, 3, 4, 5, 6, 7, math.MaxUint32 - uint32(i)}, PC: uint32(set)}}
			if e.Parent > 0 {
				f.Envs[i].Quota.Envs = 1
			}
			f.Envs = append(f.Envs, e)
		}
		slot := m.builds(t, "P18.2: states and flags", 0, f)
		walk.Freeze(m.k, 0, slot, false)
		tree, _ := m.k.Tree(envAt(m.k, 0, slot))
		for place, e := range f.Envs {
			above := place > 0 && e.Parent > 0 && f.Envs[e.Parent].Frozen
			if runs := m.k.Runs(tree[place]); runs != (e.State == api.Ready && (place == 0 || !e.Frozen) && !above) {
				t.Errorf("P18.3: set %05b, place %d: runs %v", set, place, runs)
			}
		}
	}
}

// TestOddNumbers: P1: no number makes a call panic, and none is built that shouldn't be.
func TestOddNumbers(t *testing.T) {
	odd := []int{math.MinInt, math.MinInt + 1, -1 << 40, -49, -2, -1, 0, 1, 2, 5, 15, 16, 47, 48, 49, 63, 64, 65, 1 << 31, 1 << 40, math.MaxInt - 1, math.MaxInt}
	m := example(t, 1)
	s := opened(t, m.k, 0, 31)
	saved(t, m.k, s, 0, 1, true)
	f := read(t, m.k, 0, 1)
	for _, n := range odd {
		m.build(t, fmt.Sprint("P1: env ", n), n, f)
		m.restore(t, fmt.Sprint("P1: env ", n), m.k, s, n)
		restore.Build(nil, n, f)
		restore.Restore(nil, nil, n)
		for field := range 25 {
			m := example(t, 1)
			g := cloned(f)
			e, c, x, o := &g.Envs[0], &g.Caps[2], &g.Maps[0], &g.Outs[0]
			l := []*int{&e.Parent, &e.State, &e.Code, &e.Bits, &e.Quota.Frames, &e.Quota.Envs, &e.Quota.Extents, &c.Env, &c.Slot, &c.Kind, &c.Rights, &c.Obj, &c.From.Env, &c.From.Slot, &x.Env, &x.V, &x.Slot, &o.Kind, &o.Serial, &g.Caps[0].Obj, &g.Caps[0].Rights, &g.Caps[0].Kind, &g.Caps[0].From.Env, &g.Caps[0].From.Slot, &g.Caps[1].Obj}
			*l[field] = n
			m.build(t, fmt.Sprintf("P1: field %d is %d", field, n), 0, g)
		}
	}
}

// TestObjectsApart: what is made in one kernel is not seen in another.
func TestObjectsApart(t *testing.T) {
	a, b := example(t, 9), example(t, 9)
	before := b.shape()
	f := read(t, a.k, 0, 1)
	a.builds(t, "one kernel", 0, f)
	b.unchanged(t, "P18.1: another kernel", before)
	b.builds(t, "another kernel", 0, f)
	if d := a.shape().differs(b.shape()); d != "" {
		t.Errorf("P18.1: %s", d)
	}
}

// TestNothingIsKept: what is done with a forest behind a Build is nobody's business; what is built twice is two trees.
func TestNothingIsKept(t *testing.T) {
	m := example(t, 9)
	f := read(t, m.k, 0, 1)
	g := cloned(f)
	slot := m.builds(t, "the first", 0, g)
	g.Pages[1][1], g.Envs[0].State, g.Caps[0].Rights = 99, api.Faulted, 1
	m.looksAs(t, "the first", 0, slot, f)
	other := m.builds(t, "the second", 0, f)
	stored(t, m.k, envAt(m.k, 0, other), 97, 1)
	m.looksAs(t, "the first", 0, slot, f)
	m.looksAs(t, "the original", 0, 1, f)
	do(t, m.k, 0, api.CallKill, 1)
	m.looksAs(t, "the first", 0, slot, f)
}

// TestCheckpointOfTheNew: the new tree is laid into the store and woken again.
func TestCheckpointOfTheNew(t *testing.T) {
	m := example(t, 9)
	s := opened(t, m.k, 0, 31)
	f := read(t, m.k, 0, 1)
	slot := 1
	for round := range 12 {
		if _, code := ckpt.Checkpoint(m.k, s, 0, slot, false); code != api.OK {
			t.Fatalf("round %d: Checkpoint: %d", round, code)
		}
		do(t, m.k, 0, api.CallKill, slot)
		got, code := m.restore(t, fmt.Sprint("round ", round), m.k, s, 0)
		if code != api.OK {
			t.Fatalf("P18.2: round %d: Restore: %d", round, code)
		}
		slot = got
		m.looksAs(t, fmt.Sprint("round ", round), 0, slot, f)
	}
}
