package rewind_test

import (
	"fmt"
	"math/bits"
	"slices"
	"testing"

	"amber/api"
	"amber/rewind"
	"amber/walk"
)

// What a trip is refused with: whether it stands, what the restore says, and where the runs part.

// cellar: the chapter's machine one floor below: the caller is environment 1, its store in its slot 0, its tree's root environment 2 in its slot 1.
func cellar(t *testing.T, program string) machine {
	t.Helper()
	m := newMachine()
	do(t, m.k, 0, api.CallSpawn, 40, 8, 10)
	m.s = opened(t, m.k, 1, 31)
	do(t, m.k, 1, api.CallSpawn, 8, 2, 0)
	do(t, m.k, 2, api.CallAlloc)
	fill(t, m.k, 2, 0, program)
	do(t, m.k, 2, api.CallMap, 0, 0, 1)
	do(t, m.k, 1, api.CallStart, 1, 0)
	return m
}

// hurdles: what can be wrong with a trip that moves, in the order in which it is told.
var hurdles = []api.Errno{api.ErrArg, api.ErrEnv, api.ErrState, api.ErrNoCap, api.ErrDown, api.ErrImage, api.ErrNoSpace, api.ErrDiverge}

// falls: the ways in which a trip stands no more, though its store serves and its caller lives.
var falls = []func(t *testing.T, m machine){
	func(t *testing.T, m machine) { do(t, m.k, 1, api.NatFreeze, -1, 0, 1) },
	func(t *testing.T, m machine) { do(t, m.k, 0, api.NatFreeze, -1, 0, 1) },
	func(t *testing.T, m machine) { do(t, m.k, 1, api.CallDrop, 1) },
	func(t *testing.T, m machine) { m.inSlot(t, 1, 0, 15) },
	func(t *testing.T, m machine) { m.inSlot(t, 1, 2, 7) },
	func(t *testing.T, m machine) { m.inSlot(t, 1, 2, 15&^api.Write) },
	func(t *testing.T, m machine) { m.inSlot(t, 1, 2, 15&^api.Read) },
	func(t *testing.T, m machine) { do(t, m.k, 1, api.CallDrop, 1); do(t, m.k, 1, api.CallAlloc) },
	func(t *testing.T, m machine) { do(t, m.k, 1, api.CallDrop, 1); do(t, m.k, 1, api.NatClaim, 20) },
	func(t *testing.T, m machine) { do(t, m.k, 1, api.CallKill, 1); do(t, m.k, 1, api.CallSpawn, 8, 2, 0) },
	func(t *testing.T, m machine) {
		if code := m.s.Commit([]byte{1}, false); code != api.OK {
			t.Fatalf("Commit: %d", code)
		}
	},
}

// inSlot lays into the caller's slot a capability on the environment at a place of the tree of environment 0.
func (m machine) inSlot(t *testing.T, slot, place, rights int) {
	t.Helper()
	do(t, m.k, 1, api.CallDrop, slot)
	do(t, m.k, 0, api.NatSelf, -1, place, 1, slot, rights)
}

// hindered: a trip with two legs behind it, on a machine with the troubles that a set names. What takes the caller or the store away comes last, so that all the others can be done ahead of it.
func hindered(t *testing.T, set, way int) (machine, *rewind.Trip) {
	t.Helper()
	m := cellar(t, counts)
	x := m.begun(t, 1, 1)
	ran(t, x, picks(0, 3), nil)
	has := func(code api.Errno) bool { return set>>slices.Index(hurdles, code)&1 == 1 }
	if has(api.ErrDiverge) {
		do(t, m.k, 1, api.CallSetReg, 1, 4, 100)
	}
	ran(t, x, picks(0, 4), nil)
	for _, trouble := range []struct {
		code api.Errno
		do   func()
	}{
		{api.ErrState, func() { falls[way](t, m) }},
		{api.ErrNoCap, func() { do(t, m.k, 1, api.CallDrop, []int{0, 2}[way%2]) }}, // home, or the image's extent
		{api.ErrDown, m.goDown},
		{api.ErrImage, func() { m.d.Edit(0, 3, []byte{0xff}) }},
		{api.ErrNoSpace, func() { do(t, m.k, 1, api.CallSpawn, 24, 0, 0) }},
		{api.ErrEnv, func() { do(t, m.k, 0, api.CallKill, 0) }},
		{api.ErrArg, func() { m.s.Close() }},
	} {
		if has(trouble.code) {
			trouble.do()
		}
	}
	return m, x
}

// TestOrderOfRefusals: all sets of troubles, and the ways of standing no more.
func TestOrderOfRefusals(t *testing.T) {
	for set := range 1 << len(hurdles) {
		for way := range falls {
			// Each way alone and with all that is told behind it; of the other sets two ways are enough.
			if alone := set>>2 == 1 || set>>2 == 63; way > 1 && !alone {
				continue
			}
			m, x := hindered(t, set, way)
			what := fmt.Sprintf("P25.1: the troubles %08b, way %d", set, way)
			want := api.OK
			if set > 0 {
				want = hurdles[bits.TrailingZeros(uint(set))]
			}
			switch want {
			case api.ErrArg, api.ErrEnv, api.ErrState:
				m.refusesAll(t, what, x, want)
			case api.OK:
				backs(t, x, 1)
				forth(t, x, 1, emits(4, 2), end(4))
				m.finds(t, x, api.Watch{On: 2, Reg: 4, Value: 2}, 2)
			default:
				serials := 0
				if want == api.ErrDiverge {
					serials = 2
				}
				m.refusesBack(t, what, x, 0, want, serials)
				m.refusesForth(t, what, x, 0, want, serials)
				m.refusesFind(t, what, x, api.Watch{On: 2, Reg: 4, Value: 2}, want, serials)
				m.refusesGo(t, what, x, picks(0, 4097), nil, api.ErrArg)
				if l, code := x.Go(picks(0, 1), nil); code != api.OK || len(l) != 1 {
					t.Errorf("%s: Go = %v, %d", what, l, code)
				}
			}
		}
	}
}

// What is not asked of a trip that stands: the tree's own flag, other rights, where the capability came from, and what else lies with the caller.
func TestWhatAlsoStands(t *testing.T) {
	for i, change := range []func(m machine){
		func(m machine) { do(t, m.k, 1, api.NatFreeze, 1, 0, 1) },
		func(m machine) { m.inSlot(t, 1, 2, 11) },
		func(m machine) {
			do(t, m.k, 1, api.CallDerive, 1, 15)
			do(t, m.k, 1, api.CallDrop, 1)
			whole := do(t, m.k, 0, api.NatSelf, -1, 2, 0, -1, 15)
			do(t, m.k, 0, api.NatPlace, whole, -1, 1, 1, 11)
		},
		func(m machine) { do(t, m.k, 1, api.CallAlloc) },
		func(m machine) { do(t, m.k, 0, api.NatFreeze, -1, 2, 1) },
	} {
		m := cellar(t, counts)
		x := m.begun(t, 1, 1)
		change(m)
		what := fmt.Sprint("P25.1: change ", i)
		goes(t, x, picks(0, 4), nil, emits(3, 1), end(4))
		m.finds(t, x, api.Watch{On: 2, Reg: 4, Value: 1}, 1)
		backs(t, x, 1)
		forth(t, x, 1, emits(3, 1), end(4))
		if tree, _ := m.k.Tree(1); len(tree) != 2 {
			t.Errorf("%s: the caller has the tree %v", what, tree)
		}
	}
}

// TestStandsAgain: what was in the way goes, and the trip stands as it stood.
func TestStandsAgain(t *testing.T) {
	m := cellar(t, counts)
	x := m.begun(t, 1, 1)
	ran(t, x, picks(0, 4), nil)
	do(t, m.k, 1, api.NatFreeze, -1, 0, 1)
	m.refusesAll(t, "P25.1: flagged", x, api.ErrState)
	do(t, m.k, 1, api.NatFreeze, -1, 0, 0)
	backs(t, x, 1)
	at := x.Slot()
	moved := do(t, m.k, 1, api.CallDerive, at, 15)
	do(t, m.k, 1, api.CallDrop, at)
	m.refusesAll(t, "P25.1: the slot is free", x, api.ErrState)
	do(t, m.k, 1, api.NatPlace, moved, -1, 0, at, 15)
	forth(t, x, 1, emits(3, 1), end(4))
	if _, there := capAt(m.k, 1, moved); there {
		t.Errorf("P25.5: the caller's other capability on the old tree is still there")
	}
}

// A store that was closed and opened again is another one, and so is a number that was given again another caller.
func TestNothingIsTakenForAnother(t *testing.T) {
	m := cellar(t, counts)
	x := m.begun(t, 1, 1)
	m.s.Close()
	m.s = opened(t, m.k, 1, 31)
	m.refusesAll(t, "P25.1: another store", x, api.ErrArg)
	y := m.begun(t, 1, 1)
	do(t, m.k, 0, api.CallKill, 0)
	m.refusesAll(t, "P25.1: the caller is gone", y, api.ErrEnv)
	do(t, m.k, 0, api.CallSpawn, 40, 8, 10)
	m.refusesAll(t, "P25.1: another caller", y, api.ErrArg)
}

// Two trips over one store: the second takes the beginning away from the first.
func TestTheYoungerTripStands(t *testing.T) {
	m := house(t, counts)
	x := m.begun(t, 0, 1)
	ran(t, x, picks(0, 4), nil)
	y := m.begun(t, 0, 1)
	m.refusesAll(t, "P25.1: the elder trip", x, api.ErrState)
	goes(t, y, picks(0, 4), nil, emits(3, 2), end(4))
	backs(t, y, 1)
	m.counted(t, y, 1)
}

// Two trips that have nothing to do with one another but their kernel.
func TestTripsApart(t *testing.T) {
	m := cellar(t, counts)
	n := machine{d: m.d, k: m.k, s: opened(t, m.k, 0, 30)}
	spare := do(t, m.k, 0, api.CallSpawn, 8, 2, 0)
	env := rootAt(t, m.k, 0, spare)
	do(t, m.k, env, api.CallAlloc)
	fill(t, m.k, env, 0, counts)
	do(t, m.k, env, api.CallMap, 0, 0, 1)
	do(t, m.k, 0, api.CallStart, spare, 0)
	x, y := m.begun(t, 1, 1), n.begun(t, 0, spare)
	for i := range 3 {
		goes(t, x, picks(0, 4), nil, emits(3, i+1), end(4))
		goes(t, y, picks(0, 8), nil, emits(3, 2*i+1), emits(7, 2*i+2), end(8))
		backs(t, x, 1)
		backs(t, y, i)
		forth(t, x, 1, emits(3, i+1), end(4))
		if l, code := y.Forth(i); code != api.OK || len(l) != 3*i {
			t.Errorf("P25.2: Forth(%d) = %v, %d", i, l, code)
		}
	}
	backs(t, y, 2)
	stands(t, x, 3, 3, x.Slot())
	stands(t, y, 1, 3, y.Slot())
	m.finds(t, x, api.Watch{On: 2, Reg: 4, Value: 2}, 2)
	n.finds(t, y, api.Watch{On: 2, Reg: 4, Value: 2}, 1)
}

// TestRoom: what a second tree takes of the caller; with one less of anything it is refused, with as much or more it is not.
func TestRoom(t *testing.T) {
	for _, part := range []string{"frames", "environments", "extents", "slots"} {
		for spare := range 3 {
			m := newMachine()
			do(t, m.k, 0, api.CallSpawn, 40, 8, 10)
			m.s = opened(t, m.k, 1, 31)
			do(t, m.k, 1, api.CallSpawn, 8, 2, 3)
			do(t, m.k, 2, api.CallAlloc)
			x := m.begun(t, 1, 1)
			ran(t, x, picks(0, 1), nil)
			f, _, _ := walk.Read(m.k, 1, 1)
			quota, slots := walk.Need(f)
			left := look(t, m.k, 1).Left
			want := api.OK
			if spare == 0 {
				want = api.ErrNoSpace
			}
			switch part {
			case "frames":
				do(t, m.k, 1, api.CallSpawn, left.Frames-quota.Frames-spare+1, 0, 0)
			case "environments":
				do(t, m.k, 1, api.CallSpawn, 0, left.Envs-quota.Envs-spare, 0)
			case "extents":
				do(t, m.k, 1, api.CallSpawn, 0, 0, left.Extents-quota.Extents-spare+1)
			case "slots":
				fillSlots(t, m, 1, slots+spare-1)
			}
			what := fmt.Sprintf("P25.1: %s: %d to spare", part, spare-1)
			if want != api.OK {
				m.refusesBack(t, what, x, 1, want, 0)
				m.refusesFind(t, what, x, api.Watch{On: 1}, want, 0)
				ran(t, x, picks(0, 1), nil)
				continue
			}
			m.finds(t, x, api.Watch{On: 1}, 0)
			backs(t, x, 1)
			forth(t, x, 1, none())
		}
	}
}
