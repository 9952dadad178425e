package run_test

import (
	"math"
	"reflect"
	"slices"
	"sync"
	"testing"
	"testing/synctest"

	"amber/api"
	"amber/gate"
	"amber/run"
)

func TestExampleOfExit(t *testing.T) {
	k := house(t, "li r1, 7\nsys 14\nsys 1")
	before := k.State()
	runs(t, "P12.1", k, 1, picks(0, 10), nil, sys(2, 14, api.OK, a(7)), sys(3, 1, api.OK, a()))
	changed(t, "P12.1: behind the exit", k, before, 1, func(x *api.Env) { x.State, x.Regs.PC = api.Done, 3 })
	runs(t, "P12.1", k, 1, picks(0, 10), nil, none())
}

func TestExampleOfPicks(t *testing.T) {
	k := house(t, "jmp -1")
	before := k.State()
	runs(t, "P12.1", k, 1, picks(0, 3, 0, 2), nil, end(3), end(2))
	runs(t, "P12.1", k, 1, picks(0, 0), nil, none())
	runs(t, "P12.1", k, 1, picks(1, 5), nil, of(none(), 1, 0))
	runs(t, "P12.1", k, 1, picks(0, 4096, 0, -5), nil, end(4096), none())
	unchanged(t, "P12.1: jmp -1", k, before)
}

func TestExampleOfAFault(t *testing.T) {
	k := house(t, "ld r2, r0, 600")
	before := k.State()
	steps(t, "P12.1", k, 1, nil, fell(1, api.ErrPage), 0)
	changed(t, "P12.1: behind the fault", k, before, 1, func(x *api.Env) { x.State, x.Code = api.Faulted, 60 })
}

func TestExampleOfAnswers(t *testing.T) {
	k := house(t, "sys 24\nsys 24\nsys 24")
	runs(t, "P12.1", k, 1, picks(0, 9), []uint32{5, 6},
		sys(1, 24, api.OK, a(), 5), sys(2, 24, api.OK, a(5), 6), sys(3, 24, api.ErrState, a(6)), fell(4, api.ErrOp))
}

func TestExampleOfWaiting(t *testing.T) {
	k := house(t, "sys 32")
	runs(t, "P12.1", k, 1, picks(0, 1), nil, sys(1, 32, api.ErrCall, a()), end(1))
	if x := look(t, k, 1); x.Regs.R[0] != 110 {
		t.Errorf("P12.1: R0 is %d", x.Regs.R[0])
	}
	k = house(t, "sys 12\nsys 14")
	runs(t, "P12.1", k, 1, picks(0, 9), nil, sys(1, 12, api.OK, a()))
	if x := look(t, k, 1); x.State != api.Waiting {
		t.Errorf("P12.1: behind the wait: %+v", x)
	}
	do(t, k, 0, api.CallNotify, 0, 9)
	if x := look(t, k, 1); x.State != api.Ready || x.Regs.R[0] != 0 || x.Regs.R[1] != 9 {
		t.Errorf("P12.1: behind the notice: %+v", x)
	}
	runs(t, "P12.1", k, 1, picks(0, 1), nil, sys(1, 14, api.OK, a(9)), end(1))
}

func TestExampleOfYield(t *testing.T) {
	k := house(t, "li r1, 0\nli r2, 3\nsys 0\njmp -2")
	runs(t, "P12.1", k, 1, picks(0, 10, 0, 10), nil, sys(3, 0, api.OK, a(0, 3)), sys(2, 0, api.OK, a()))
}

// TestErrorsInOrder: no kernel, then no root, then picks that are too many or too long; nothing changes, and no events are told.
func TestErrorsInOrder(t *testing.T) {
	k := house(t, "sys 2\nsys 24\njmp -3")
	before := k.State()
	refused := func(k *gate.Kernel, root int, p []api.Pick, want api.Errno) {
		t.Helper()
		if got, code := run.Run(k, root, p, []uint32{1, 2}); code != want || got != nil {
			t.Errorf("P12.1: Run(%d, %d picks) = %v, %d, want %d", root, len(p), got, code, want)
		}
	}
	long := [][]api.Pick{
		picks(0, 4097), picks(0, 4096, 0, 1), picks(0, 1, 0, 4096), picks(0, 4000, 0, -4000, 0, 97), picks(0, math.MaxInt),
		picks(0, math.MaxInt, 0, 1), picks(0, 1<<62, 0, 1<<62, 0, 1<<62, 0, 1<<62), picks(0, 1, -1, 4097), picks(0, 1, 99, 4096),
		picks(0, math.MinInt, 0, 4097), make([]api.Pick, 4097), append(make([]api.Pick, 4096), api.Pick{K: 0, Steps: 1}), append(make([]api.Pick, 4096), api.Pick{Steps: -1}),
	}
	refused(nil, 1, picks(0, 1), api.ErrArg)
	refused(nil, 9, nil, api.ErrArg)
	for _, root := range nobody {
		refused(k, root, picks(0, 1), api.ErrEnv)
		refused(k, root, nil, api.ErrEnv)
		refused(k, root, long[0], api.ErrEnv)
	}
	for _, p := range long {
		refused(nil, 1, p, api.ErrArg)
		refused(k, 1, p, api.ErrArg)
		refused(k, 0, p, api.ErrArg)
	}
	unchanged(t, "P12.1: a run that is refused", k, before)
}

// TestLongestRuns: just within the limits.
func TestLongestRuns(t *testing.T) {
	k := house(t, "addi r7, 1\njmp -2")
	runs(t, "P12.1", k, 1, nil, nil)
	runs(t, "P12.1", k, 1, []api.Pick{}, nil)
	runs(t, "P12.1", k, 1, picks(0, 4096), nil, end(4096))
	runs(t, "P12.1", k, 1, picks(0, 4000, 0, -4000, 0, 96), nil, end(4000), none(), end(96))
	runs(t, "P12.1", k, 1, picks(0, math.MinInt, 0, math.MinInt, 0, 2), nil, none(), none(), end(2))
	if x := look(t, k, 1); x.Regs.R[7] != (4096+4096+2)/2 {
		t.Errorf("P12.1: r7 is %d", x.Regs.R[7])
	}
	many := slices.Repeat(picks(0, 1), 4096)
	if got, code := run.Run(k, 1, many, nil); code != api.OK || !slices.Equal(got, slices.Repeat([]api.Event{end(1)}, 4096)) {
		t.Errorf("P12.1: 4096 picks of a step: %d events, %d", len(got), code)
	}
	if got, code := run.Run(k, 1, make([]api.Pick, 4096), nil); code != api.OK || !slices.Equal(got, make([]api.Event, 4096)) {
		t.Errorf("P12.1: 4096 picks of no step: %d events, %d", len(got), code)
	}
}

// TestNoSuchPlace: one EvNone with that place.
func TestNoSuchPlace(t *testing.T) {
	k := house(t, "sys 2")
	before := k.State()
	for _, place := range []int{math.MinInt, -2, -1, 1, 2, 16, 1 << 32, math.MaxInt} {
		runs(t, "P12.1", k, 1, picks(place, 3), nil, of(none(), place, 0))
		runs(t, "P12.1", k, 1, picks(place, 0), nil, of(none(), place, 0))
	}
	runs(t, "P12.1", k, 0, picks(0, 3), nil, none())
	unchanged(t, "P12.1: picks of nobody", k, before)
	runs(t, "P12.1", k, 0, picks(1, 1), nil, of(sys(1, 2, api.OK, a(), 1), 1, 0), of(end(1), 1, 0))
}

// TestHowAPickEnds: a yield, then that it doesn't run any more, then its steps: only the last is told.
func TestHowAPickEnds(t *testing.T) {
	for _, c := range []struct {
		program string
		events  []api.Event // of the program's last instruction, at step 3
		more    []api.Event // where steps are left behind it
	}{
		{"sys 0\nnop", []api.Event{sys(3, 0, api.OK, a())}, nil},
		{"sys 1\nnop", []api.Event{sys(3, 1, api.OK, a())}, nil},
		{"sys 12\nnop", []api.Event{sys(3, 12, api.OK, a())}, nil},
		{"div r0, r0", []api.Event{fell(3, api.ErrDiv)}, nil},
		{".zero 1", []api.Event{fell(3, api.ErrOp)}, nil},
		{"ld r0, r0, 32", []api.Event{fell(3, api.ErrUnmapped)}, nil},
		{"sys 14\njmp -1", []api.Event{sys(3, 14, api.OK, a()), end(3)}, []api.Event{sys(3, 14, api.OK, a()), end(7)}},
		{"sys 24\njmp -1", []api.Event{sys(3, 24, api.ErrState, a()), end(3)}, []api.Event{sys(3, 24, api.ErrState, a()), end(7)}},
		{"sys 99\njmp -1", []api.Event{sys(3, 99, api.ErrCall, a()), end(3)}, []api.Event{sys(3, 99, api.ErrCall, a()), end(7)}},
		{"nop\njmp -1", []api.Event{end(3)}, []api.Event{end(7)}},
		{"jmp -1", []api.Event{end(3)}, []api.Event{end(7)}},
	} {
		runs(t, "P12.1", house(t, "nop\nnop\n"+c.program), 1, picks(0, 3), nil, c.events...)
		if c.more == nil {
			c.more = c.events
		}
		runs(t, "P12.1", house(t, "nop\nnop\n"+c.program), 1, picks(0, 7), nil, c.more...)
		runs(t, "P12.1", house(t, "nop\nnop\n"+c.program), 1, picks(0, 2), nil, end(2))
	}
}

// TestPlacesAsTheyAreThen: a pick's place is one of the tree as the picks before it left it, in preorder, by the children's making.
func TestPlacesAsTheyAreThen(t *testing.T) {
	k := house(t, "sys 9\nmov r6, r1\nsys 0\nmov r1, r6\nsys 13\nsys 0")
	runs(t, "P12.1", k, 1, picks(1, 1, 0, 9, 1, 1, 2, 1, 0, 9, 1, 1), nil,
		of(none(), 1, 0),
		sys(1, 9, api.OK, a(), 1), sys(3, 0, api.OK, a(1)),
		of(none(), 1, 0), of(none(), 2, 0),
		of(sys(2, 13, api.OK, a(1)), 0, 4), sys(3, 0, api.OK, a()),
		of(none(), 1, 0))

	// 1 has the children 2 and 3; 2 ends, and the next child takes its number, but the place behind 3.
	k = house(t, "jmp -1")
	first, _ := lodger(t, k, 1, "li r1, 22\nsys 14\njmp -3")
	lodger(t, k, 1, "li r1, 33\nsys 14\njmp -3")
	emits := func(place int, value uint32) []api.Event {
		return []api.Event{of(sys(2, 14, api.OK, a(value)), place, 0), of(end(3), place, 0)}
	}
	runs(t, "P12.1", k, 1, picks(1, 3, 2, 3), nil, append(emits(1, 22), emits(2, 33)...)...)
	do(t, k, 1, api.CallKill, first)
	runs(t, "P12.1", k, 1, picks(1, 3, 2, 3), nil, append(emits(1, 33), of(none(), 2, 0))...)
	_, third := lodger(t, k, 1, "li r1, 44\nsys 14\njmp -3")
	if third != 2 {
		t.Fatalf("the number is %d", third)
	}
	runs(t, "P12.1", k, 1, picks(1, 3, 2, 3), nil, append(emits(1, 33), emits(2, 44)...)...)
	runs(t, "P12.1", k, 0, picks(2, 3, 3, 3), nil, append(emits(2, 33), emits(3, 44)...)...)
	runs(t, "P12.1", k, 3, picks(0, 3, 1, 3), nil, append(emits(0, 33), of(none(), 1, 0))...)
}

// TestOneWakesTheOther: a guest that waits is woken by another one, within one run.
func TestOneWakesTheOther(t *testing.T) {
	k := house(t, "jmp -1")
	slot, child := lodger(t, k, 1, "sys 12\nsys 14\nsys 1")
	fill(t, k, 0, 1, "li r1, 1\nli r2, 6\nsys 11\njmp -1")
	serial := look(t, k, child).Serial
	runs(t, "P12.1", k, 1, picks(1, 9, 1, 9, 0, 4, 1, 9, 1, 9), nil,
		of(sys(1, 12, api.OK, a()), 1, 0),
		of(none(), 1, 0),
		of(sys(3, 11, api.OK, a(uint32(slot), 6)), 0, serial), end(4),
		of(sys(1, 14, api.OK, a(6)), 1, 0), of(sys(2, 1, api.OK, a()), 1, 0),
		of(none(), 1, 0))
}

// TestAnswersGoRound: the answers are one list for all picks and environments of a run.
func TestAnswersGoRound(t *testing.T) {
	k := house(t, "sys 24\njmp -2")
	lodger(t, k, 1, "sys 24\njmp -2")
	runs(t, "P12.1", k, 1, picks(0, 1, 1, 3, 0, 2, 1, 2), []uint32{5, 6, 7, 8},
		sys(1, 24, api.OK, a(), 5), end(1),
		of(sys(1, 24, api.OK, a(), 6), 1, 0), of(sys(3, 24, api.OK, a(6), 7), 1, 0), of(end(3), 1, 0),
		sys(2, 24, api.OK, a(5), 8), end(2),
		of(sys(2, 24, api.ErrState, a(7)), 1, 0), of(end(2), 1, 0))
	// What is left over is no more there in the next run.
	runs(t, "P12.1", k, 1, picks(0, 2), []uint32{1, 2, 3}, sys(2, 24, api.OK, a(8), 1), end(2))
	runs(t, "P12.1", k, 1, picks(0, 2), nil, sys(2, 24, api.ErrState, a(1)), end(2))
}

// TestFrozenTrees: below a flag nothing goes; what stands beside it does.
func TestFrozenTrees(t *testing.T) {
	k := house(t, "sys 2\njmp -2")
	lodger(t, k, 1, "sys 2\njmp -2")
	_, other := lodger(t, k, 0, "sys 14\njmp -2")
	for _, place := range []int{0, 1} { // of environment 0's tree: itself, then the root of the run
		do(t, k, 0, api.NatFreeze, -1, place, 1)
		before := k.State()
		runs(t, "P12.3", k, 1, picks(0, 9, 1, 9, 2, 9, -1, 9, 0, 0), []uint32{4}, none(), of(none(), 1, 0), of(none(), 2, 0), of(none(), -1, 0), none())
		unchanged(t, "P12.3: a run below a flag", k, before)
		if place == 0 {
			runs(t, "P12.3", k, other, picks(0, 1), nil, none())
		} else {
			runs(t, "P12.3", k, other, picks(0, 1), nil, sys(1, 14, api.OK, a()), end(1))
		}
		do(t, k, 0, api.NatFreeze, -1, place, 0)
	}
	do(t, k, 1, api.NatFreeze, -1, 1, 1)
	runs(t, "P12.3", k, 1, picks(1, 9, 0, 1), nil, of(none(), 1, 0), sys(1, 2, api.OK, a(), 2), end(1))
	do(t, k, 1, api.NatFreeze, -1, 1, 0)
	runs(t, "P12.3", k, 1, picks(1, 1), nil, of(sys(1, 2, api.OK, a(), 1), 1, 0), of(end(1), 1, 0))
}

// TestNothingIsKeptOrShared: what is handed in stays as it is, spare room too; what is told is new each time.
func TestNothingIsKeptOrShared(t *testing.T) {
	k := house(t, "sys 24\nsys 24\njmp -3")
	p, answers := append(make([]api.Pick, 0, 8), picks(0, 4, 0, 2)...), append(make([]uint32, 0, 8), 5, 6, 7)
	first, _ := run.Run(k, 1, p, answers)
	kept := slices.Clone(first)
	second, _ := run.Run(k, 1, p, answers)
	clear(second[:cap(second)])
	if !slices.Equal(first, kept) {
		t.Errorf("P12.1: the first run's events became %+v", first)
	}
	if !slices.Equal(p, picks(0, 4, 0, 2)) || !slices.Equal(p[:8][2:], make([]api.Pick, 6)) {
		t.Errorf("P12.1: the picks became %v", p[:8])
	}
	if !slices.Equal(answers[:8], []uint32{5, 6, 7, 0, 0, 0, 0, 0}) {
		t.Errorf("P12.1: the answers became %v", answers[:8])
	}
}

// TestKernelsApart: runs on many kernels at once tell what one alone tells.
func TestKernelsApart(t *testing.T) {
	program := "sys 24\nsys 2\nsys 20\nsys 15\nsys 0\njmp -6"
	p := slices.Repeat(picks(0, 7, 1, 3, 0, 2), 50)
	alone := house(t, program)
	want, _ := run.Run(alone, 1, p, []uint32{1, 2, 3})
	var houses [8]*gate.Kernel
	var events [8][]api.Event
	var all sync.WaitGroup
	for i := range houses {
		houses[i] = house(t, program)
		all.Go(func() { events[i], _ = run.Run(houses[i], 1, p, []uint32{1, 2, 3}) })
	}
	all.Wait()
	for i := range houses {
		if !slices.Equal(events[i], want) || !reflect.DeepEqual(houses[i].State(), alone.State()) {
			t.Errorf("P12.1: kernel %d of those that ran at once went another way", i)
		}
	}
}

// TestNoGoroutineIsLeft: picks end by a yield, a wait, an exit, a fault or their last step, and their goroutine with them.
// A bubble ends when all that were begun in it have ended, and panics where one is blocked for ever; a count of goroutines
// would hang on the machine's load, for one that has been joined counts until its last instructions are done.
func TestNoGoroutineIsLeft(t *testing.T) {
	for _, program := range []string{"sys 0\njmp -2", "sys 12", "sys 1", "ld r2, r0, 600", "sys 24\nsys 24\njmp -3", "jmp -1"} {
		synctest.Test(t, func(t *testing.T) {
			k := house(t, program)
			if _, code := run.Run(k, 1, picks(0, 1, 0, 7, 1, 3, 0, 2), []uint32{1}); code != api.OK {
				t.Errorf("P12.1: a run of %q answered %v", program, code)
			}
		})
	}
}
