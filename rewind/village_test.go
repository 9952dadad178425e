package rewind_test

import (
	"fmt"
	"slices"
	"strconv"
	"strings"
	"testing"

	"amber/api"
	"amber/gate"
	"amber/isa"
	"amber/mem"
)

// Guests that do whatever they may, mostly without coming to an end: in a trip nobody wakes them but themselves.

// pages: of each guest: its program, and one to write to; they lie in the slots and on the pages of the same number.
const pages = 3

// arguments: what the guests' calls ask for, by number.
var arguments = []string{
	"", "code", "", "v slot write", "v", "slot rights", "slot es rights", "slot", "slot", "f e x", "es pc", "es bits", "", "es", "value",
	"slot", "slot sector v", "slot sector v", "v write", "es v slot write", "", "es", "es r value", "es r", "",
}

// village: a tree of guests below a caller, known by its slot.
type village struct {
	machine
	env, slot int
}

// found makes a machine with a village, by the dice: the same dice, the same machine. Closed: no capability in the tree is on its root.
func found(t *testing.T, d *dice, closed bool) village {
	t.Helper()
	v := village{machine: newMachine()}
	if d.one(2) {
		// A caller that is not environment 0, with a neighbour.
		do(t, v.k, 0, api.CallSpawn, 56, 13, 20)
		do(t, v.k, 0, api.CallAlloc)
		v.env = 1
	}
	v.s = opened(t, v.k, v.env, 31)
	v.slot = do(t, v.k, v.env, api.CallSpawn, 24, 5, 0)
	v.settle(t, d, 0)
	for range 2 {
		v.settle(t, d, do(t, v.k, v.env, api.NatNew, v.slot, 0, d.of(4, 6, 7), d.below(2), 0))
	}
	for place := range 3 {
		for at := 3; at < 6; at++ {
			named := d.below(3)
			if closed {
				named = 1 + d.below(2)
			}
			do(t, v.k, v.env, api.NatSelf, v.slot, named, place, at, d.of(15, 15, 15, 7, 3))
		}
	}
	for range 6 {
		v.k.Call(v.env, request(api.NatCopy, v.slot, d.below(3), d.below(3), d.below(3), -1, d.of(15, 7, 3, 1)))
	}
	if d.one(3) {
		do(t, v.k, v.env, api.NatFreeze, v.slot, 1+d.below(2), 1)
	}
	return v
}

func treeAt(t *testing.T, k *gate.Kernel, env, slot int) []int {
	t.Helper()
	l, code := k.Tree(rootAt(t, k, env, slot))
	if code != api.OK {
		t.Fatalf("Tree: %d", code)
	}
	return l
}

// settle gives the environment at a place its frames and its program, and lets it go.
func (v village) settle(t *testing.T, d *dice, place int) {
	t.Helper()
	words := d.program((pages - 1) * api.PageWords)
	env := treeAt(t, v.k, v.env, v.slot)[place]
	for slot := range pages {
		do(t, v.k, env, api.CallAlloc)
		do(t, v.k, env, api.CallMap, slot, slot, 1)
		if slot < pages-1 {
			v.k.Call(env, api.Request{Call: api.NatFill, A: [6]int{slot}, Data: mem.Pack(api.Page(words[slot*api.PageWords:]))})
		}
	}
	state := make([]byte, 36)
	v.k.Call(v.env, api.Request{Call: api.NatSet, A: [6]int{v.slot, place, d.of(api.Ready, api.Ready, api.Ready, api.Waiting)}, Data: state})
}

func (d *dice) picks(n int) []api.Pick {
	var l []api.Pick
	for range n {
		l = append(l, api.Pick{K: d.of(0, 0, 0, 1, 1, 2, 2, 3, 4, d.of(6, -1)), Steps: d.of(1, 2, 7, 20, 50, 70, 120, d.of(0, -3))})
	}
	return l
}

func (d *dice) answers() []uint32 {
	var l []uint32
	for range d.below(6) {
		l = append(l, uint32(d.of(0, 1, 2, 3, 7, 1<<32-1)))
	}
	return l
}

// program: blocks of instructions, most of which can be done, and a jump back at its end.
func (d *dice) program(size int) []uint32 {
	var out []uint32
	for len(out) < size-1 {
		words, line, code := isa.Assemble(d.block())
		if code != api.OK {
			panic(fmt.Sprint("no block: line ", line, ": ", code))
		}
		out = append(out, words...)
	}
	back, _ := isa.Encode(api.Instr{Op: 21, Imm: -size})
	return append(out[:size-1], back)
}

func (d *dice) block() string {
	r := func() string { return "r" + strconv.Itoa(d.below(8)) }
	switch d.below(14) {
	case 0:
		return fmt.Sprintf("li r6, %d\nld %s, r6, %d", d.below(90), r(), d.below(6))
	case 1, 2, 3:
		return fmt.Sprintf("li r6, %d\nst %s, r6, %d", d.of(64, 64, 60, 63)+d.below(25), r(), d.below(6))
	case 4:
		op := []string{"add", "sub", "mul", "and", "xor", "shl", "lt", "eq", "mov", "addi"}[d.below(9)]
		return fmt.Sprintf("%s %s, %s", op, r(), r())
	case 5:
		return fmt.Sprintf("%s %s, %d", []string{"jz", "jnz"}[d.below(2)], r(), d.below(4))
	case 6:
		// A child is made, given the code, and started.
		return fmt.Sprintf("li r1, 2\nli r2, 0\nli r3, 0\nsys 9\nmov r6, r1\nli r1, %d\nmov r2, r6\nli r3, 3\nsys 6\nmov r1, r6\nli r2, 0\nli r3, 0\nli r4, 1\nsys 19\nmov r1, r6\nli r2, %d\nsys 10", d.below(2), d.below(32))
	case 7, 8:
		// What was asked is told, so that another answer is another trace.
		return "sys 24\nmov r7, r1\nsys 14"
	case 9:
		return fmt.Sprintf("addi r5, %d\nmov r1, r5\nsys 14", 1+d.below(9))
	}
	return d.call()
}

// call: a system call and what it asks for; those that end things are rarer, and exit is rarest.
func (d *dice) call() string {
	call := d.of(d.below(25), d.below(25), d.below(25), api.CallKill)
	ends := slices.Contains([]int{api.CallExit, api.CallUnmap, api.CallDrop, api.CallRevoke, api.CallWait}, call)
	if ends && (d.one(2) || call == api.CallExit && !d.one(6)) {
		call = d.of(0, 2, 3, 5, 6, 9, 11, 11, 14, 15, 20, 24)
	}
	if d.one(25) {
		call = d.of(25, 32, 38, 46, 300)
	}
	var b strings.Builder
	if call < len(arguments) {
		for i, name := range strings.Fields(arguments[call]) {
			fmt.Fprintf(&b, "li r%d, %d\n", i+1, d.argument(name))
		}
	}
	fmt.Fprint(&b, "sys ", call)
	return b.String()
}

func (d *dice) argument(name string) int {
	if d.one(20) {
		return d.of(-1, 16, 48, 32767)
	}
	switch name {
	case "slot":
		return d.of(2, 2, 3, 4, 5, 6, 7, 8, d.below(3))
	case "es":
		return d.of(3, 4, 5, d.below(9))
	case "rights":
		return d.of(15, 15, 7, 3, 1, d.below(16))
	case "write", "e", "x":
		return d.of(0, 1)
	case "v":
		return d.of(3, 4, 5, 6, d.below(3))
	case "r":
		return d.below(8)
	}
	return d.below(6)
}
