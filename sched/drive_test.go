package sched_test

import (
	"math"
	"slices"
	"testing"

	"amber/api"
	"amber/disk"
	"amber/gate"
	"amber/sched"
)

// pair: the kernel of the sixth example: two guests that jump on the spot, environments 1 and 2, of the serials 5 and 9.
func pair(t *testing.T) *gate.Kernel {
	t.Helper()
	k := gate.Boot(disk.New(), 1)
	for range 2 {
		for range 3 {
			do(t, k, 0, api.CallAlloc)
		}
		do(t, k, 0, api.CallSpawn, 2, 0, 0)
	}
	fill(t, k, 0, 0, spin)
	for _, slot := range []int{3, 7} {
		do(t, k, 0, api.CallGrant, 0, slot, api.Read)
		do(t, k, 0, api.CallMapIn, slot, 0, 0, 0)
		do(t, k, 0, api.CallStart, slot, 0)
	}
	return k
}

// TestExample6: a plan and a kernel brought together.
func TestExample6(t *testing.T) {
	k, p := pair(t), newPlan(t, sched.Turns)
	readies(t, k, 0, 5, 9)
	drives(t, k, p, 0, 3, 4, nil, []int{5, 9, 5}, end(1, 4), end(2, 4), end(1, 4))
	refusesDrive(t, k, p, 0, 4096, 2, api.ErrArg)
	drives(t, k, p, 0, 0, 4096, nil, nil)
	refusesDrive(t, k, p, 7, 1, 1, api.ErrEnv)
	do(t, k, 0, api.NatFreeze, -1, 1, 1)
	readies(t, k, 0, 9)
	drives(t, k, p, 0, 2, 1, nil, []int{9, 9}, end(2, 1), end(2, 1))
	refusesDrive(t, k, nil, 0, 1, 1, api.ErrArg)
	tells(t, p, row(5, 1, 0), row(9, 1, 1))
}

// TestReadyRefuses: a kernel that isn't there ahead of a root that doesn't live.
func TestReadyRefuses(t *testing.T) {
	k := pair(t)
	for _, root := range []int{-1, 3, 15, 16, math.MinInt, math.MaxInt} {
		if l, code := sched.Ready(k, root); l != nil || code != api.ErrEnv {
			t.Errorf("P24.1: Ready(%d) = %v, %d, want nil and ErrEnv", root, l, code)
		}
		if l, code := sched.Ready(nil, root); l != nil || code != api.ErrArg {
			t.Errorf("P24.1: Ready(nil, %d) = %v, %d, want nil and ErrArg", root, l, code)
		}
	}
}

// TestReadyInPreorder: serials stand as the tree is walked, not by number and not by size; only those that run.
func TestReadyInPreorder(t *testing.T) {
	k := street(t, spin, spin)
	readies(t, k, 0, 2, 4)
	child := lodger(t, k, 1, spin) // serial 6, below environment 1
	readies(t, k, 0, 2, 6, 4)
	readies(t, k, 1, 2, 6)
	readies(t, k, child, 6)
	readies(t, k, 2, 4)
	do(t, k, 0, api.CallKill, 0)
	lodger(t, k, 0, spin) // number 1 again, serial 8
	readies(t, k, 0, 4, 8)
	k.Fault(2, api.ErrDiv)
	readies(t, k, 0, 8)
	readies(t, k, 2)
	do(t, k, 0, api.CallSpawn, 0, 0, 0) // Idle
	readies(t, k, 0, 8)
	do(t, k, 1, api.CallWait)
	readies(t, k, 0)
	do(t, k, 0, api.CallNotify, 0, 1)
	readies(t, k, 0, 8)
	do(t, k, 1, api.CallExit, 0)
	readies(t, k, 0)
}

// TestReadyAndFlags: nobody runs at or below a flag, be it above the root.
func TestReadyAndFlags(t *testing.T) {
	k := street(t, spin, spin)
	child := lodger(t, k, 1, spin)
	flag(t, k, child, 1)
	readies(t, k, 0, 2, 4)
	flag(t, k, child, 0)
	flag(t, k, 1, 1)
	readies(t, k, 0, 4)
	readies(t, k, 1)
	readies(t, k, child)
	flag(t, k, 0, 1)
	readies(t, k, 2)
	p := newPlan(t, sched.Ranks)
	drives(t, k, p, 2, 5, 5, nil, nil)
	drives(t, k, p, 0, 5, 5, nil, nil)
	tells(t, p)
}

// TestDriveRefuses: arguments that may not be, ahead of a root that doesn't live; nothing changes.
func TestDriveRefuses(t *testing.T) {
	k, p := street(t, "sys 24\nst r0, r0, 31\n"+spin), newPlan(t, sched.Shares)
	sets(t, p, 2, 3)
	for _, c := range [][2]int{
		{-1, 1}, {4097, 1}, {1, 0}, {1, -1}, {1, 4097}, {0, 0}, {0, 4097}, {4096, 2}, {2, 2049}, {65, 64}, {64, 65}, {4096, 4096},
		{math.MinInt, 1}, {math.MaxInt, 1}, {1, math.MinInt}, {1, math.MaxInt}, {1 << 62, 4}, {4, 1 << 62}, {1 << 32, 1 << 32},
		{math.MinInt, math.MinInt}, {math.MaxInt, math.MaxInt}, {-1, -1}, {-64, -64},
	} {
		for _, root := range []int{0, 1, 7, -1} {
			refusesDrive(t, k, p, root, c[0], c[1], api.ErrArg)
		}
	}
	for _, root := range []int{-1, 2, 16, math.MinInt, math.MaxInt} {
		refusesDrive(t, k, p, root, 1, 1, api.ErrEnv)
		refusesDrive(t, k, p, root, 0, 4096, api.ErrEnv)
		refusesDrive(t, k, nil, root, 1, 1, api.ErrArg)
		refusesDrive(t, nil, p, root, 1, 1, api.ErrArg)
		refusesDrive(t, nil, nil, root, 1, 1, api.ErrArg)
	}
	refusesDrive(t, nil, p, 0, 0, 1, api.ErrArg)
	refusesDrive(t, k, nil, 0, 0, 1, api.ErrArg)
}

// TestDriveAtItsLimit: as many steps as a drive may have, in long turns and in short ones.
func TestDriveAtItsLimit(t *testing.T) {
	for _, c := range [][2]int{{1, 4096}, {4096, 1}, {64, 64}, {2, 2048}, {3, 1365}, {0, 1}, {0, 4096}} {
		k, p := street(t, spin, spin), newPlan(t, sched.Turns)
		events, chosen, code := sched.Drive(k, p, 0, c[0], c[1], nil)
		if code != api.OK || len(events) != c[0] || len(chosen) != c[0] {
			t.Errorf("P24.1: Drive(%d, %d): %d events, %d turns, %d", c[0], c[1], len(events), len(chosen), code)
		}
		for i, e := range events {
			if e != end(1+i%2, c[1]) || chosen[i] != 2+2*(i%2) {
				t.Fatalf("P24.1: Drive(%d, %d): turn %d is of %d and tells %+v", c[0], c[1], i, chosen[i], e)
			}
		}
	}
}

// TestDriveEndsEarly: when nobody is ready any more, the turns that are left are none of the plan's choices.
func TestDriveEndsEarly(t *testing.T) {
	k, p := street(t, "li r1, 7\nsys 1", "sys 12", ".word 0"), newPlan(t, sched.Turns)
	want := []api.Event{end(1, 1), sys(2, 1, api.CallWait, api.OK, nil), fell(3, 1, api.ErrOp), sys(1, 1, api.CallExit, api.OK, []uint32{7})}
	drives(t, k, p, 0, 100, 1, nil, []int{2, 4, 6, 2}, want...)
	tells(t, p, row(2, 1, 1), row(4, 1, 0), row(6, 1, 0))
	drives(t, k, p, 0, 100, 1, nil, nil)
	tells(t, p, row(2, 1, 1), row(4, 1, 0), row(6, 1, 0))
	for env, state := range []int{api.Idle, api.Done, api.Waiting, api.Faulted} {
		if x := look(t, k, env); x.State != state {
			t.Errorf("P24.1: environment %d is in state %d, want %d", env, x.State, state)
		}
	}
}

// TestDriveIsOfATree: places are those of the root's tree, and nobody outside it goes.
func TestDriveIsOfATree(t *testing.T) {
	k, p := street(t, spin, spin, spin), newPlan(t, sched.Turns)
	lodger(t, k, 2, spin) // serial 8, below environment 2
	first, last := look(t, k, 1), look(t, k, 3)
	drives(t, k, p, 2, 3, 7, nil, []int{4, 8, 4}, end(0, 7), end(1, 7), end(0, 7))
	if look(t, k, 1) != first || look(t, k, 3) != last {
		t.Errorf("P24.6: who is outside the tree went")
	}
	tells(t, p, row(4, 1, 1), row(8, 1, 0))
	drives(t, k, p, 0, 4, 1, nil, []int{6, 8, 2, 4}, end(4, 1), end(3, 1), end(1, 1), end(2, 1))
}

// TestPlacesShift: the pick's place is that of the walk as it is at its turn.
func TestPlacesShift(t *testing.T) {
	spawner := "li r1, 0\nli r2, 0\nli r3, 0\nsys 9\nsys 13\n" + spin // its child's capability lies in slot 1; then R1 is that slot
	k, p := street(t, spawner, spin), newPlan(t, sched.Turns)
	drives(t, k, p, 0, 2, 4, nil, []int{2, 4}, sys(1, 4, api.CallSpawn, api.OK, nil, 1), end(1, 4), end(3, 4))
	drives(t, k, p, 0, 2, 1, nil, []int{2, 4}, on(sys(1, 1, api.CallKill, api.OK, []uint32{1}), 6), end(1, 1), end(2, 1))
}

// TestWokenBetweenTurns: one that waits is no more asked, till another wakes it; then it is a newcomer.
func TestWokenBetweenTurns(t *testing.T) {
	k := street(t, "sys 12\n"+spin, "li r2, 5\nli r1, 1\nsys 11\n"+spin)
	do(t, k, 0, api.NatSelf, -1, 1, 2, 1, api.AllRights) // slot 1 of the second names the first
	p := newPlan(t, sched.Shares)
	sets(t, p, 4, 2)
	waits := sys(1, 1, api.CallWait, api.OK, nil)
	wakes := on(sys(2, 1, api.CallNotify, api.OK, []uint32{1, 5}), 2)
	drives(t, k, p, 0, 5, 1, nil, []int{2, 4, 4, 4, 2}, waits, end(2, 1), end(2, 1), wakes, end(2, 1), end(1, 1))
	tells(t, p, row(2, 1, 1680), row(4, 2, 1260))
	if x := look(t, k, 1); x.Regs.R[1] != 5 || x.State != api.Ready {
		t.Errorf("P24.6: it was woken with %d, and is in state %d", x.Regs.R[1], x.State)
	}
}

// TestBornAndEnded: a child that a guest makes gets its turns, a serial of its own, and is known behind its end still.
func TestBornAndEnded(t *testing.T) {
	parent := "li r1, 1\nsys 9\nmov r6, r1\nmov r2, r1\nli r1, 0\nli r3, 3\nsys 6\n" + // the child gets the page with the program
		"mov r1, r6\nli r2, 0\nli r3, 0\nli r4, 0\nsys 19\nmov r1, r6\nli r2, 18\nsys 10\nsys 0\nmov r1, r6\nsys 13\n" + spin
	k, p := street(t, parent), newPlan(t, sched.Turns)
	_, chosen, code := sched.Drive(k, p, 0, 4, 20, nil)
	if code != api.OK || !slices.Equal(chosen, []int{2, 4, 2, 2}) {
		t.Fatalf("P24.1: the turns were of %v, %d", chosen, code)
	}
	readies(t, k, 0, 2)
	tells(t, p, row(2, 1, 1), row(4, 1, 0))
}

// TestAnswersAreUsedUp: from one list over all turns, one by each ask that is answered; then asks are refused, and use up nothing.
func TestAnswersAreUsedUp(t *testing.T) {
	asker := "sys 24\nli r1, 0\njmp -3"
	k, p := street(t, asker, asker), newPlan(t, sched.Turns)
	answers := []uint32{50, 60, 70, 80, 90}
	room := answers[:3]
	ask := func(place, step int, v uint32) api.Event { return sys(place, step, api.CallAsk, api.OK, nil, v) }
	none := func(place, step int) api.Event { return sys(place, step, api.CallAsk, api.ErrState, nil) }
	drives(t, k, p, 0, 3, 4, room, []int{2, 4, 2}, ask(1, 1, 50), ask(1, 4, 60), end(1, 4), ask(2, 1, 70), none(2, 4), end(2, 4), none(1, 3), end(1, 4))
	if !slices.Equal(answers, []uint32{50, 60, 70, 80, 90}) {
		t.Errorf("P24.1: the answers are %v behind a drive", answers)
	}
	drives(t, k, p, 0, 1, 2, answers[4:], []int{4}, end(2, 2)) // what is not asked for is not taken
	drives(t, k, p, 0, 2, 1, answers[4:], []int{2, 4}, end(1, 1), ask(2, 1, 90), end(2, 1))
}

// TestOtherCallsUseUpNothing: a yield, an emit and a refused call take no answer.
func TestOtherCallsUseUpNothing(t *testing.T) {
	k, p := street(t, "sys 0\nsys 14\nsys 32\nsys 99\nsys 24\n.word 0"), newPlan(t, sched.Ranks)
	drives(t, k, p, 0, 9, 9, []uint32{5}, []int{2, 2},
		sys(1, 1, api.CallYield, api.OK, nil), sys(1, 1, api.CallEmit, api.OK, nil), sys(1, 2, 32, api.ErrCall, nil), sys(1, 3, 99, api.ErrCall, nil),
		sys(1, 4, api.CallAsk, api.OK, nil, 5), fell(1, 5, api.ErrOp))
}

// TestDriveTellsNewMemory: what is told is the caller's, and no two drives share it.
func TestDriveTellsNewMemory(t *testing.T) {
	k, p := street(t, spin, spin), newPlan(t, sched.Turns)
	first, one, _ := sched.Drive(k, p, 0, 3, 1, nil)
	for i := range first {
		first[i], one[i] = api.Event{K: -9}, -9
	}
	_, _ = append(first, first...), append(one, one...)
	drives(t, k, p, 0, 3, 1, nil, []int{4, 2, 4}, end(2, 1), end(1, 1), end(2, 1))
	l, _ := sched.Ready(k, 0)
	l[0], l[1] = -9, -9
	readies(t, k, 0, 2, 4)
}

// TestStepsInMeasure: guests that never stop get steps as their weights, turn by turn, or never wait too long.
func TestStepsInMeasure(t *testing.T) {
	weights := []int{1, 2, 4, 8}
	steps := func(kind int) (counts [4]int) {
		k, p := street(t, spin, spin, spin, spin), newPlan(t, kind)
		for i, w := range weights {
			sets(t, p, 2+2*i, w)
		}
		for range 3 { // a plan goes on from drive to drive
			events, _, _ := sched.Drive(k, p, 0, 150, 5, nil)
			for _, e := range events {
				counts[e.K-1] += e.Steps
			}
		}
		return counts
	}
	if got := steps(sched.Shares); got != [4]int{150, 300, 600, 1200} {
		t.Errorf("P24.6: by shares they get %v steps", got)
	}
	if got := steps(sched.Turns); got[0] < 560 || got[1] < 560 || got[2] < 560 || got[3] < 560 {
		t.Errorf("P24.6: by turns they get %v steps", got)
	}
	for i, n := range steps(sched.Ranks) {
		if n < 450/(api.MaxWeight+4)*5 {
			t.Errorf("P24.6: by ranks the one of weight %d gets %d steps", weights[i], n)
		}
	}
}
