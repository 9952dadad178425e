package run_test

import (
	"fmt"
	"math"
	"slices"
	"strings"
	"testing"

	"amber/api"
	"amber/disk"
	"amber/gate"
	"amber/run"
)

// odd: registers that are all apart, so that one that is touched is seen.
var odd = api.Regs{R: [8]uint32{100, 101, 102, 103, 104, 105, 106, 107}}

// nobody: numbers at which no environment of a house lives.
var nobody = []int{math.MinInt, -1 << 32, -2, -1, 2, 15, 16, 1 << 32, 1<<32 + 1, math.MaxInt}

func TestStepOfNobody(t *testing.T) {
	if e, n := run.Step(nil, 0, []uint32{1}); e != none() || n != 0 {
		t.Errorf("P12.1: Step(nil, 0) = %+v, %d", e, n)
	}
	k := house(t, "sys 24")
	before := k.State()
	for _, env := range nobody {
		steps(t, "P12.1", k, env, []uint32{1}, none(), 0)
	}
	unchanged(t, "P12.1: a step of nobody", k, before)
}

// TestStepOfOneThatDoesNotRun: neither its state nor a flag, its own or one above it, lets it go.
func TestStepOfOneThatDoesNotRun(t *testing.T) {
	k := house(t, "sys 24")
	for _, state := range []int{api.Idle, api.Waiting, api.Done, api.Faulted} {
		put(t, k, 1, state, 7, 3, odd)
		before := k.State()
		steps(t, "P12.3", k, 1, []uint32{1}, none(), 0)
		runs(t, "P12.3", k, 1, picks(0, 3, 0, 3), []uint32{1}, none(), none())
		unchanged(t, fmt.Sprint("P12.3: a step in state ", state), k, before)
	}
	put(t, k, 1, api.Ready, 0, 0, api.Regs{})
	for place := range 2 {
		do(t, k, 0, api.NatFreeze, -1, place, 1)
		before := k.State()
		steps(t, "P12.3", k, 1, []uint32{1}, none(), 0)
		runs(t, "P12.3", k, 1, picks(0, 3, 5, 3), []uint32{1}, none(), of(none(), 5, 0))
		unchanged(t, "P12.3: a step of one that is frozen", k, before)
		do(t, k, 0, api.NatFreeze, -1, place, 0)
	}
	steps(t, "P12.3", k, 1, []uint32{1}, sys(1, 24, api.OK, a(), 1), 1)
}

// TestOrdinarySteps: instructions that ask for nothing, loads and stores: the registers are those of the instruction, and nothing else changes (but for the word that is stored).
func TestOrdinarySteps(t *testing.T) {
	for _, c := range []struct {
		program string
		change  func(r *api.Regs)
	}{
		{"nop", func(r *api.Regs) { r.PC = 1 }},
		{"li r3, -2", func(r *api.Regs) { r.R[3], r.PC = 4294967294, 1 }},
		{"add r7, r6", func(r *api.Regs) { r.R[7], r.PC = 213, 1 }},
		{"jmp -1", func(r *api.Regs) {}},
		{"jmp 600", func(r *api.Regs) { r.PC = 601 }},
		{"jr r6", func(r *api.Regs) { r.PC = 106 }},
		{"call r5, 4", func(r *api.Regs) { r.R[5], r.PC = 1, 5 }},
		{"ld r2, r0, -98\nnop\n.word 77", func(r *api.Regs) { r.R[2], r.PC = 77, 1 }},
		{"ld r0, r0, -69\n", func(r *api.Regs) { r.R[0], r.PC = 0, 1 }},
	} {
		k := house(t, c.program)
		put(t, k, 1, api.Ready, 5, 6, odd)
		before := k.State()
		steps(t, "P12.1", k, 1, []uint32{9}, end(1), 0)
		changed(t, "P12.1: "+c.program, k, before, 1, func(x *api.Env) { c.change(&x.Regs) })
	}
}

func TestStores(t *testing.T) {
	k := house(t, "st r7, r0, -69")
	put(t, k, 1, api.Ready, 0, 0, odd)
	do(t, k, 0, api.NatClean, -1, 1, 0)
	want := k.State()
	steps(t, "P12.1", k, 1, nil, end(1), 0)
	want.Frames[0].Page[31] = 107
	want.Frames[0].Frame.Dirty = true
	changed(t, "P12.1: a store", k, want, 1, func(x *api.Env) { x.Regs.PC = 1 })

	// The word that is stored is the instruction that comes next.
	k = house(t, "ld r1, r0, 4\nst r1, r0, 2\nnop\nsys 1\nsys 14")
	runs(t, "P12.1", k, 1, picks(0, 9), nil, sys(3, 14, api.OK, a(0x1A00000E)), sys(4, 1, api.OK, a()))
}

// TestFaults: the environment is Faulted with the error as its code; its registers, bits and all else stay.
func TestFaults(t *testing.T) {
	for _, c := range []struct {
		program string
		pc      uint32
		code    api.Errno
	}{
		{"", 0, api.ErrOp},
		{".word 0x1b000000", 0, api.ErrOp},
		{"nop", 32, api.ErrUnmapped},
		{"nop", 511, api.ErrUnmapped},
		{"nop", 512, api.ErrPage},
		{"nop", math.MaxUint32, api.ErrPage},
		{"li r4, 0\ndiv r1, r4", 1, api.ErrDiv},
		{"li r4, 0\nrem r1, r4", 1, api.ErrDiv},
		{"ld r2, r0, 0", 0, api.ErrUnmapped},
		{"ld r2, r0, 412", 0, api.ErrPage},
		{"ld r2, r0, 411", 0, api.ErrUnmapped},
		{"ld r2, r0, -101", 0, api.ErrPage},
		{"st r2, r0, 0", 0, api.ErrUnmapped},
		{"st r2, r0, 412", 0, api.ErrPage},
		{"st r2, r0, -101", 0, api.ErrPage},
	} {
		for _, whole := range []bool{false, true} {
			k := house(t, c.program)
			r := odd
			r.PC = c.pc
			if strings.Contains(c.program, "r4") {
				r.R[4] = 0
			}
			put(t, k, 1, api.Ready, 5, 6, r)
			before := k.State()
			if whole {
				runs(t, "P12.1", k, 1, picks(0, 9), []uint32{9}, fell(1, c.code))
			} else {
				steps(t, "P12.1", k, 1, []uint32{9}, fell(1, c.code), 0)
			}
			changed(t, "P12.1: "+c.program, k, before, 1, func(x *api.Env) { x.State, x.Code = api.Faulted, int(c.code) })
			steps(t, "P12.3", k, 1, nil, none(), 0)
		}
	}
}

func TestReadOnlyPages(t *testing.T) {
	k := house(t, "ld r1, r0, 0\nst r1, r0, 9")
	do(t, k, 1, api.CallProtect, 0, 0)
	before := k.State()
	runs(t, "P12.1", k, 1, picks(0, 9), nil, fell(2, api.ErrReadOnly))
	changed(t, "P12.1: a store to a page that may be read", k, before, 1, func(x *api.Env) {
		x.State, x.Code = api.Faulted, int(api.ErrReadOnly)
		x.Regs.R[1], x.Regs.PC = 0x13100000, 1
	})
}

// TestCallsRegisters: register 0 is the code, 1 to 3 are what came back, 0 where it was refused; the others stay; the PC is past the instruction.
func TestCallsRegisters(t *testing.T) {
	for _, c := range []struct {
		call int
		r    [5]uint32
		code api.Errno
		v    [3]uint32
		on   int
	}{
		{api.CallYield, a(1, 2, 3, 4, 5), api.OK, [3]uint32{}, 0},
		{api.CallEmit, a(math.MaxUint32, 2, 3, 4, 5), api.OK, [3]uint32{}, 0},
		{api.CallInfo, a(0, 2, 3, 4, 5), api.OK, [3]uint32{1, 3}, 3},
		{api.CallInfo, a(1, 2, 3, 4, 5), api.ErrNoCap, [3]uint32{}, 0},
		{api.CallInfo, a(math.MaxUint32, 2, 3, 4, 5), api.ErrNoCap, [3]uint32{}, 0},
		{api.CallLeft, a(1, 2, 3, 4, 5), api.OK, [3]uint32{7, 2, 0}, 0},
		{api.CallMap, a(0, 0, 1, 4, 5), api.ErrMapped, [3]uint32{}, 3},
		{api.CallMap, a(1, 0, math.MaxUint32, 4, 5), api.ErrArg, [3]uint32{}, 3},
		{api.CallDerive, a(0, 1, 3, 4, 5), api.ErrRights, [3]uint32{}, 3},
		{api.CallProtect, a(16, 0, 3, 4, 5), api.ErrPage, [3]uint32{}, 0},
		{api.CallSpawn, a(8, 0, 0, 4, 5), api.ErrNoSpace, [3]uint32{}, 0},
		{api.CallSpawn, a(0, math.MaxUint32, 0, 4, 5), api.ErrArg, [3]uint32{}, 0},
		{api.CallMapIn, a(1, 2, 3, 4, 5), api.ErrArg, [3]uint32{}, 0},
		{api.CallAsk, a(1, 2, 3, 4, 5), api.ErrState, [3]uint32{}, 0},
		{api.NatCount, a(math.MaxUint32, 2, 3, 4, 5), api.ErrCall, [3]uint32{}, 0},
	} {
		k := house(t, fmt.Sprint("sys ", c.call))
		r := odd
		copy(r.R[1:], c.r[:])
		put(t, k, 1, api.Ready, 5, 6, r)
		before := k.State()
		steps(t, "P12.1", k, 1, nil, of(sys(1, c.call, c.code, c.r, c.v[:]...), 0, c.on), 0)
		changed(t, fmt.Sprintf("P12.1: sys %d %v", c.call, c.r), k, before, 1, func(x *api.Env) {
			x.Regs = r
			x.Regs.R[0], x.Regs.PC = uint32(c.code), 1
			copy(x.Regs.R[1:], c.v[:])
		})
	}
}

// TestCallsThatDo: what the calls do is the gate's, to the caller's own things.
func TestCallsThatDo(t *testing.T) {
	k := house(t, "sys 2\nmov r7, r1\nli r1, 3\nmov r2, r7\nli r3, 1\nsys 3\nli r4, 66\nst r4, r4, 30")
	runs(t, "P12.1", k, 1, picks(0, 8), nil, sys(1, 2, api.OK, a(), 1), of(sys(6, 3, api.OK, a(3, 1, 1)), 0, 4), end(8))
	if v, code := k.Load(1, 96); v != 66 || code != api.OK {
		t.Errorf("P12.1: the word at 96 is %d, %d", v, code)
	}
	if x := look(t, k, 1); x.Left.Frames != 6 || k.Serial() != 5 {
		t.Errorf("P12.1: behind alloc: %+v, next serial %d", x, k.Serial())
	}
}

// TestNoCalls: the native calls and all numbers past them are none of a guest's.
func TestNoCalls(t *testing.T) {
	for _, call := range []int{25, 26, 31, 32, 33, 37, 38, 39, 40, 44, 46, 49, 50, 51, 52, 255, 256, 256 + 14, 32768, 65535} {
		k := house(t, fmt.Sprint("li r1, -1\nsys ", call))
		steps(t, "P12.1", k, 1, nil, end(1), 0)
		before := k.State()
		steps(t, "P12.1", k, 1, []uint32{3}, sys(1, call, api.ErrCall, a(math.MaxUint32)), 0)
		changed(t, fmt.Sprint("P12.1: sys ", call), k, before, 1, func(x *api.Env) {
			x.Regs.R[0], x.Regs.R[1], x.Regs.PC = 110, 0, 2
		})
	}
}

func TestAskTakesAnswers(t *testing.T) {
	for _, c := range []struct {
		answers []uint32
		code    api.Errno
		v       uint32
		taken   int
	}{
		{nil, api.ErrState, 0, 0},
		{[]uint32{}, api.ErrState, 0, 0},
		{[]uint32{0}, api.OK, 0, 1},
		{[]uint32{8, 9, 10}, api.OK, 8, 1},
		{[]uint32{math.MaxUint32}, api.OK, math.MaxUint32, 1},
	} {
		k := house(t, "sys 24")
		put(t, k, 1, api.Ready, 5, 6, odd)
		before := k.State()
		kept := slices.Clone(c.answers)
		steps(t, "P12.1", k, 1, c.answers, sys(1, 24, c.code, a(101, 102, 103, 104, 105), c.v), c.taken)
		changed(t, "P12.1: ask", k, before, 1, func(x *api.Env) {
			x.Regs.R = [8]uint32{uint32(c.code), c.v, 0, 0, 104, 105, 106, 107}
			x.Regs.PC = 1
		})
		if !slices.Equal(c.answers, kept) {
			t.Errorf("P12.1: the answers became %v", c.answers)
		}
	}
}

// TestOnlyAskTakes: no other call takes an answer.
func TestOnlyAskTakes(t *testing.T) {
	for call := range 60 {
		if call == 24 {
			continue
		}
		k := house(t, fmt.Sprint("sys ", call))
		if e, n := run.Step(k, 1, []uint32{7}); n != 0 || e.Kind != api.EvSys || e.Call != call {
			t.Errorf("P12.1: sys %d: %+v, %d answers", call, e, n)
		}
	}
}

// TestCallsThatStop: exit and wait hand their answer over all the same.
func TestCallsThatStop(t *testing.T) {
	for _, c := range []struct {
		call, state, code int
	}{{api.CallExit, api.Done, 101}, {api.CallWait, api.Waiting, 5}} {
		k := house(t, fmt.Sprint("sys ", c.call))
		put(t, k, 1, api.Ready, 5, 0, odd)
		before := k.State()
		steps(t, "P12.1", k, 1, nil, sys(1, c.call, api.OK, a(101, 102, 103, 104, 105)), 0)
		changed(t, fmt.Sprint("P12.1: sys ", c.call), k, before, 1, func(x *api.Env) {
			x.State, x.Code = c.state, c.code
			x.Regs = api.Regs{R: [8]uint32{0, 0, 0, 0, 104, 105, 106, 107}, PC: 1}
		})
	}
	k := house(t, "sys 12")
	put(t, k, 1, api.Ready, 5, 6, odd)
	before := k.State()
	steps(t, "P12.1", k, 1, nil, sys(1, 12, api.OK, a(101, 102, 103, 104, 105), 6), 0)
	changed(t, "P12.1: a wait for bits that are there", k, before, 1, func(x *api.Env) {
		x.Bits = 0
		x.Regs = api.Regs{R: [8]uint32{0, 6, 0, 0, 104, 105, 106, 107}, PC: 1}
	})
}

// TestOwnRegisters: what a guest sets of its own registers is read anew behind the call, and only then are registers 0 to 3 its answer.
func TestOwnRegisters(t *testing.T) {
	for r := range 9 {
		k := house(t, "sys 22")
		do(t, k, 0, api.NatSelf, 0, 0, 0, 5, api.AllRights)
		own := odd
		copy(own.R[1:], []uint32{5, uint32(r), 900})
		put(t, k, 1, api.Ready, 0, 0, own)
		before := k.State()
		steps(t, "P12.1", k, 1, nil, of(sys(1, 22, api.OK, a(5, uint32(r), 900, 104, 105)), 0, 2), 0)
		changed(t, fmt.Sprint("P12.1: setreg of its own register ", r), k, before, 1, func(x *api.Env) {
			x.Regs = api.Regs{R: [8]uint32{0, 0, 0, 0, 104, 105, 106, 107}, PC: 1}
			if r == 8 {
				x.Regs.PC = 900
			} else if r > 3 {
				x.Regs.R[r] = 900
			}
		})
	}
	// The PC that it reads is past the call, and its other registers are not yet the answer.
	k := house(t, "nop\nsys 23")
	do(t, k, 0, api.NatSelf, 0, 0, 0, 5, api.AllRights)
	put(t, k, 1, api.Ready, 0, 0, api.Regs{R: [8]uint32{7, 5, 8}, PC: 1})
	steps(t, "P12.1", k, 1, nil, of(sys(1, 23, api.OK, a(5, 8), 2), 0, 2), 0)
	put(t, k, 1, api.Ready, 0, 0, api.Regs{R: [8]uint32{7, 5, 0}, PC: 1})
	steps(t, "P12.1", k, 1, nil, of(sys(1, 23, api.OK, a(5, 0), 7), 0, 2), 0)
}

// TestSerialsOfCalls: slot s of environment 1 holds a frame with the serial 10 + s; which of its slots an event's serial is of hangs on the call alone, and on nothing that it answers.
func TestSerialsOfCalls(t *testing.T) {
	inFirst, inSecond := []int{5, 7, 8, 10, 11, 13, 15, 16, 17, 19, 21, 22, 23}, []int{3, 6}
	for call := range 70 {
		k := gate.Boot(disk.New(), 8)
		do(t, k, 0, api.CallSpawn, 10, 0, 0)
		for range 6 {
			do(t, k, 1, api.CallAlloc)
		}
		fill(t, k, 1, 0, fmt.Sprint("sys ", call))
		do(t, k, 1, api.CallMap, 0, 0, 1)
		for _, r := range [][2]uint32{{1, 2}, {4, 3}, {5, 9}, {9, 5}, {48, 47}, {math.MaxUint32, math.MaxUint32}} {
			put(t, k, 1, api.Ready, 0, 0, api.Regs{R: [8]uint32{0, r[0], r[1], 4, 4, 4}})
			want := 0
			if slices.Contains(inFirst, call) {
				want = k.SerialOf(1, int(r[0]))
			} else if slices.Contains(inSecond, call) {
				want = k.SerialOf(1, int(r[1]))
			}
			e, _ := run.Step(k, 1, nil)
			if e.Serial != want || e.Kind != api.EvSys {
				t.Errorf("P12.1: sys %d %v: %+v, want serial %d", call, r, e, want)
			}
		}
	}
}

// TestSerialAheadOfTheCall: of a call that empties the slot, and of one that fills it.
func TestSerialAheadOfTheCall(t *testing.T) {
	k := house(t, "sys 7\nsys 2\nsys 15")
	put(t, k, 1, api.Ready, 0, 0, api.Regs{R: [8]uint32{0, 5}})
	do(t, k, 0, api.NatPlace, 1, -1, 1, 5, 3)
	steps(t, "P12.1", k, 1, nil, of(sys(1, 7, api.OK, a(5)), 0, 3), 0)
	steps(t, "P12.1", k, 1, nil, sys(1, 2, api.OK, a(), 1), 0)
	steps(t, "P12.1", k, 1, nil, of(sys(1, 15, api.OK, a(1), 1, 15), 0, 4), 0)

	_, child := lodger(t, k, 1, "jmp -1")
	serial := look(t, k, child).Serial
	fill(t, k, 0, 1, "sys 13\nsys 13")
	put(t, k, 1, api.Ready, 0, 0, api.Regs{R: [8]uint32{0, 2}})
	steps(t, "P12.1", k, 1, nil, of(sys(1, 13, api.OK, a(2)), 0, serial), 0)
	put(t, k, 1, api.Ready, 0, 0, api.Regs{R: [8]uint32{0, 2}})
	steps(t, "P12.1", k, 1, nil, sys(1, 13, api.ErrNoCap, a(2)), 0)
}

// TestStepAtTheLastWord: behind the last page there is none.
func TestStepAtTheLastWord(t *testing.T) {
	k := house(t, "")
	do(t, k, 1, api.CallUnmap, 0)
	do(t, k, 1, api.CallMap, 15, 0, 1)
	for word, program := range []string{"sys 14", "nop"} {
		fill(t, k, 0, 1, ".zero 31\n"+program)
		put(t, k, 1, api.Ready, 0, 0, api.Regs{PC: 511})
		want := end(1)
		if word == 0 {
			want = sys(1, 14, api.OK, a())
		}
		steps(t, "P12.1", k, 1, nil, want, 0)
		if x := look(t, k, 1); x.Regs.PC != 512 {
			t.Errorf("P12.1: the PC behind 511 is %d", x.Regs.PC)
		}
		steps(t, "P12.1", k, 1, nil, fell(1, api.ErrPage), 0)
	}
}
