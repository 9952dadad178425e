package replay_test

import (
	"fmt"
	"slices"
	"strconv"
	"strings"
	"testing"

	"amber/api"
	"amber/gate"
	"amber/isa"
	"amber/mem"
	"amber/walk"
)

// Guests that do whatever they may, in trees that can be built in more than one kernel.

// codePages: of each guest's program; they lie in the slots and on the pages 0 and 1.
const codePages = 2

// arguments: what the guests' calls ask for, by number.
var arguments = []string{
	"", "code", "", "v slot write", "v", "slot rights", "slot es rights", "slot", "slot", "f e x", "es pc", "es bits", "", "es", "value",
	"slot", "slot sector v", "slot sector v", "v write", "es v slot write", "", "es", "es r value", "es r", "",
}

// village: a tree of guests, known by the slot of environment 0's that names its root.
type village struct {
	k    *gate.Kernel
	slot int
}

func (v village) root() int {
	for _, c := range v.k.State().Caps {
		if c.Held.Env == 0 && c.Held.Slot == v.slot && c.Held.Cap.Kind == api.KindEnv {
			return c.Held.Cap.Obj
		}
	}
	return -1
}

func (v village) tree() []int {
	l, _ := v.k.Tree(v.root())
	return l
}

// found makes a village of some guests below environment 0, by dice that two kernels may share. Noise is what others do in between; it is told the village's slot (-1: there is none yet).
func found(t *testing.T, k *gate.Kernel, d *dice, noise func(slot int)) village {
	t.Helper()
	noise(-1)
	v := village{k, do(t, k, 0, api.CallSpawn, 24, 5, 0)}
	v.settle(t, d, 0)
	for range 2 {
		noise(v.slot)
		v.settle(t, d, do(t, k, 0, api.NatNew, v.slot, 0, d.of(4, 6, 7), d.below(2), 0))
	}
	for place := range 3 {
		for at := 3; at < 6; at++ {
			do(t, k, 0, api.NatSelf, v.slot, d.below(3), place, at, d.of(15, 15, 15, 7, 3))
		}
	}
	noise(v.slot)
	for place, env := range v.tree() {
		for range 2 {
			k.Call(0, request(api.NatCopy, v.slot, place, d.below(3), d.below(3), -1, d.of(15, 7, 3, 1)))
		}
		k.Call(env, request(api.CallDerive, d.below(3), 15))
	}
	return v
}

func quiet(int) {}

// settle gives the environment at a place its frames and its program, and lets it go.
func (v village) settle(t *testing.T, d *dice, place int) {
	t.Helper()
	words := d.program(codePages * api.PageWords)
	env := v.tree()[place]
	for slot := range codePages {
		do(t, v.k, env, api.CallAlloc)
		v.k.Call(env, api.Request{Call: api.NatFill, A: [6]int{slot}, Data: mem.Pack(api.Page(words[slot*api.PageWords:]))})
		do(t, v.k, env, api.CallMap, slot, slot, 1)
	}
	do(t, v.k, env, api.CallAlloc)
	v.set(place, d.of(api.Ready, api.Ready, api.Ready, api.Idle), 0, api.Regs{})
}

func (v village) set(place, state, bits int, r api.Regs) {
	var p api.Page
	copy(p[:], append(slices.Clone(r.R[:]), r.PC))
	v.k.Call(0, api.Request{Call: api.NatSet, A: [6]int{v.slot, place, state, 0, bits}, Data: mem.Pack(p)[:36]})
}

// wake starts guests that stopped, all but a few, where the dice say.
func (v village) wake(d *dice) {
	for place, env := range v.tree() {
		x, _ := v.k.Env(env)
		if x.State != api.Ready && !d.one(5) {
			for slot := range codePages {
				v.k.Call(0, request(api.NatMapIn, v.slot, place, slot, slot, 1))
			}
			x.Regs.PC = uint32(d.below(codePages * api.PageWords))
			v.set(place, api.Ready, d.of(0, 0, 5), x.Regs)
		}
	}
}

func (d *dice) picks(n int) []api.Pick {
	var l []api.Pick
	for range n {
		l = append(l, api.Pick{K: d.of(0, 0, 0, 1, 1, 2, 2, 3, 4, d.of(6, -1)), Steps: d.of(1, 2, 7, 20, 50, 70, 120, d.of(0, -3))})
	}
	return l
}

func (d *dice) answers() []uint32 {
	var l []uint32
	for range d.below(6) {
		l = append(l, uint32(d.of(0, 1, 2, 3, 7, 1<<32-1)))
	}
	return l
}

// program: blocks of instructions, most of which can be done, and a jump back at its end.
func (d *dice) program(size int) []uint32 {
	var out []uint32
	for len(out) < size-1 {
		words, line, code := isa.Assemble(d.block())
		if code != api.OK {
			panic(fmt.Sprint("no block: line ", line, ": ", code))
		}
		out = append(out, words...)
	}
	back, _ := isa.Encode(api.Instr{Op: 21, Imm: -size})
	return append(out[:size-1], back)
}

func (d *dice) block() string {
	r := func() string { return "r" + strconv.Itoa(d.below(8)) }
	switch d.below(14) {
	case 0:
		return fmt.Sprintf("li r6, %d\nld %s, r6, %d", d.below(64), r(), d.of(0, 1, 9, 32, -3))
	case 1, 2:
		return fmt.Sprintf("li r6, %d\nst %s, r6, %d", 48+d.below(60), r(), d.of(0, 1, 9, -3))
	case 3:
		op := []string{"add", "sub", "mul", "and", "xor", "shl", "lt", "eq", "mov", "div"}[d.below(10)]
		return fmt.Sprintf("%s %s, %s", op, r(), r())
	case 4:
		return fmt.Sprintf("%s %s, %d", []string{"jz", "jnz"}[d.below(2)], r(), d.below(4))
	case 5:
		// A child is made, given the code, and started.
		return fmt.Sprintf("li r1, 2\nli r2, 0\nli r3, 0\nsys 9\nmov r6, r1\nli r1, %d\nmov r2, r6\nli r3, 3\nsys 6\nmov r1, r6\nli r2, 0\nli r3, 0\nli r4, 1\nsys 19\nmov r1, r6\nli r2, %d\nsys 10", d.below(2), d.below(32))
	case 6, 7:
		// What was asked is told, so that another answer is another trace.
		return "sys 24\nmov r7, r1\nsys 14"
	}
	return d.call()
}

// call: a system call and what it asks for; those that end things are rarer.
func (d *dice) call() string {
	call := d.below(25)
	if slices.Contains([]int{1, 4, 7, 8, 12, 13}, call) && d.one(2) {
		call = d.of(0, 2, 3, 5, 6, 9, 14, 15, 20, 24)
	}
	if d.one(25) {
		call = d.of(25, 32, 38, 46, 300)
	}
	var b strings.Builder
	if call < len(arguments) {
		for i, name := range strings.Fields(arguments[call]) {
			fmt.Fprintf(&b, "li r%d, %d\n", i+1, d.argument(name))
		}
	}
	fmt.Fprint(&b, "sys ", call)
	return b.String()
}

func (d *dice) argument(name string) int {
	if d.one(20) {
		return d.of(-1, 16, 48, 32767)
	}
	switch name {
	case "slot":
		return d.of(0, 1, 2, 2, 3, 4, 5, 6, 7)
	case "es":
		return d.of(3, 4, 5, d.below(9))
	case "rights":
		return d.of(15, 15, 7, 3, 1, d.below(16))
	case "write", "e", "x":
		return d.of(0, 1)
	case "v":
		return d.of(0, 1, 2, 2, 3)
	case "r":
		return d.below(9)
	}
	return d.below(6)
}

// read: a village's forest. A frame whose last owner dropped it is an out from then on, in each village another: its serial is left out.
func (v village) read(t *testing.T) api.Forest {
	t.Helper()
	f, _, code := walk.Read(v.k, 0, v.slot)
	if code != api.OK {
		t.Fatalf("Read(0, %d): %d", v.slot, code)
	}
	for i := range f.Outs {
		f.Outs[i].Serial = 0
	}
	return f
}

func sameForest(a, b api.Forest) bool {
	return slices.Equal(a.Envs, b.Envs) && slices.Equal(a.Caps, b.Caps) && slices.Equal(a.Maps, b.Maps) && slices.Equal(a.Pages, b.Pages) && slices.Equal(a.Outs, b.Outs)
}

// is holds a village against another one: the forest, what each environment has left, and each word that it can read.
func (v village) is(t *testing.T, what string, other village) {
	t.Helper()
	if f, g := v.read(t), other.read(t); !sameForest(f, g) {
		t.Fatalf("%s: the tree is %+v, want %+v", what, f, g)
	}
	for place, env := range v.tree() {
		twin := other.tree()[place]
		x, y := look(t, v.k, env), look(t, other.k, twin)
		if x.Left != y.Left || x.Frozen != y.Frozen || x.Regs != y.Regs || x.State != y.State {
			t.Fatalf("%s: place %d is %+v, want %+v", what, place, x, y)
		}
		for addr := range uint32(api.MaxPages * api.PageWords) {
			a, e := v.k.Load(env, addr)
			b, f := other.k.Load(twin, addr)
			if a != b || e != f {
				t.Fatalf("%s: place %d reads %d, %d at %d, want %d, %d", what, place, a, e, addr, b, f)
			}
		}
	}
}
