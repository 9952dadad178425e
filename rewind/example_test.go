package rewind_test

import (
	"slices"
	"testing"

	"amber/api"
	"amber/replay"
	"amber/rewind"
)

// The examples of the chapter, each on a machine of its own.

// twoRuns: the second example.
func twoRuns(t *testing.T) (machine, *rewind.Trip) {
	t.Helper()
	m := house(t, counts)
	x := m.begun(t, 0, 1)
	goes(t, x, picks(0, 3), nil, emits(3, 1), end(3))
	goes(t, x, picks(0, 4), nil, emits(4, 2), end(4))
	return m, x
}

// counted: to how much the guest of the present tree has counted.
func (m machine) counted(t *testing.T, x *rewind.Trip, want int) {
	t.Helper()
	if n := do(t, m.k, 0, api.CallGetReg, x.Slot(), 4); n != want {
		t.Errorf("P25.2: r4 is %d, want %d", n, want)
	}
}

func TestExample1(t *testing.T) {
	m := house(t, counts)
	m.refusesStart(t, "nothing at 2", 0, 2, api.ErrNoCap)
	do(t, m.k, 0, api.CallDerive, 1, 7)
	m.refusesStart(t, "without Own", 0, 2, api.ErrRights)
	do(t, m.k, 0, api.CallDrop, 2)
	x := m.begun(t, 0, 1)
	stands(t, x, 0, 0, 1)
	c, there := capAt(m.k, 0, 2)
	if m.s.Gen() != 1 || !slices.Equal(m.s.Extents()[0], []int{0}) || !there || c.Held.Cap.Kind != api.KindExtent || c.Held.Cap.Obj != 0 || len(x.Log()) != 0 {
		t.Errorf("P25.1: Gen %d, Extents %v, slot 2 has %+v, Log % x", m.s.Gen(), m.s.Extents(), c, x.Log())
	}
	m.refusesStart(t, "an extent", 0, 2, api.ErrKind)
	m.refusesStart(t, "nothing at 9", 0, 9, api.ErrNoCap)
	m.refusesStart(t, "another's store", 1, 0, api.ErrArg)
	if y, code := rewind.Start(m.k, nil, 0, 1); y != nil || code != api.ErrArg {
		t.Errorf("P25.1: Start without a store = %v, %d", y, code)
	}
}

func TestExample2(t *testing.T) {
	_, x := twoRuns(t)
	stands(t, x, 2, 2, 1)
	legs, code := replay.Decode(x.Log())
	if len(x.Log()) != 80 || code != api.OK || len(legs) != 2 {
		t.Fatalf("P25.7: Log has %d bytes, %d legs, %d", len(x.Log()), len(legs), code)
	}
	sums := []uint32{replay.Digest([]api.Event{emits(3, 1), end(3)}), replay.Digest([]api.Event{emits(4, 2), end(4)})}
	for i, leg := range legs {
		if !slices.Equal(leg.Picks, picks(0, 3+i)) || len(leg.Answers) > 0 || leg.Sum != sums[i] {
			t.Errorf("P25.7: leg %d is %+v", i, leg)
		}
	}
}

func TestExample3(t *testing.T) {
	m, x := twoRuns(t)
	m.refusesBack(t, "P25.1", x, 3, api.ErrArg, 0)
	backs(t, x, 1)
	stands(t, x, 1, 2, 3)
	if _, there := capAt(m.k, 0, 1); there {
		t.Errorf("P25.5: slot 1 is not free")
	}
	if e := look(t, m.k, 2); rootAt(t, m.k, 0, 3) != 2 || e.Regs.PC != 3 || e.Regs.R[4] != 1 {
		t.Errorf("P25.2: environment %d: %+v", rootAt(t, m.k, 0, 3), e)
	}
	m.refusesForth(t, "P25.1", x, 2, api.ErrArg, 0)
	forth(t, x, 1, emits(4, 2), end(4))
	stands(t, x, 2, 2, 1)
	if rootAt(t, m.k, 0, 1) != 1 {
		t.Errorf("P25.1: the environment is number %d", rootAt(t, m.k, 0, 1))
	}
}

func TestExample4(t *testing.T) {
	m, x := twoRuns(t)
	word, _ := m.k.Load(1, 3)
	m.finds(t, x, api.Watch{On: 2, Reg: 4, Value: 2}, 2)
	m.finds(t, x, api.Watch{On: 2, Reg: 4, Value: 0}, 0)
	m.finds(t, x, api.Watch{On: 2, Reg: 4, Value: 9}, -1)
	m.finds(t, x, api.Watch{On: 1, Value: 0}, 0)
	m.finds(t, x, api.Watch{On: 4, Value: 1}, 0)
	m.finds(t, x, api.Watch{On: 3, Addr: 3, Value: word}, 0)
	m.finds(t, x, api.Watch{On: 3, Addr: 32, Value: 0}, -1)
	m.finds(t, x, api.Watch{On: 1, K: 1}, -1)
	m.refusesFind(t, "P25.1", x, api.Watch{On: 5}, api.ErrArg, 0)
	m.refusesFind(t, "P25.1", x, api.Watch{On: 2, Reg: 8}, api.ErrArg, 0)
}

func TestExample5(t *testing.T) {
	m, x := twoRuns(t)
	backs(t, x, 2)
	stands(t, x, 0, 2, 3)
	m.counted(t, x, 0)
	goes(t, x, picks(0, 2), nil, end(2))
	stands(t, x, 1, 1, 3)
	m.counted(t, x, 1)
	if len(x.Log()) != 40 {
		t.Errorf("P25.7: Log has %d bytes", len(x.Log()))
	}
}

func TestExample6(t *testing.T) {
	m, x := twoRuns(t)
	spare := do(t, m.k, 0, api.CallSpawn, 52, 0, 0)
	m.refusesBack(t, "P25.1: no frames", x, 0, api.ErrNoSpace, 0)
	goes(t, x, picks(0, 4), nil, emits(4, 3), end(4))
	do(t, m.k, 0, api.CallKill, spare)
	do(t, m.k, 0, api.NatFreeze, -1, 0, 1)
	m.refusesAll(t, "P25.1: the caller is flagged", x, api.ErrState)
	do(t, m.k, 0, api.NatFreeze, -1, 0, 0)
	backs(t, x, 3)
	if code := m.s.Commit([]byte{1}, true); code != api.OK {
		t.Fatalf("Commit: %d", code)
	}
	m.refusesAll(t, "P25.1: somebody has committed", x, api.ErrState)
	m.s.Close()
	m.refusesAll(t, "P25.1: the store is closed", x, api.ErrArg)
}

func TestExample7(t *testing.T) {
	m := house(t, counts)
	x := m.begun(t, 0, 1)
	goes(t, x, picks(0, 3), nil, emits(3, 1), end(3))
	do(t, m.k, 0, api.CallSetReg, 1, 4, 100)
	goes(t, x, picks(0, 4), nil, emits(4, 101), end(4))
	backs(t, x, 1)
	m.counted(t, x, 1)
	// A tree of one environment and one frame: two serials, and none by the guest.
	m.refusesForth(t, "P25.1: somebody has changed the tree", x, 1, api.ErrDiverge, 2)
	stands(t, x, 1, 2, 3)
	m.counted(t, x, 1)
}
