package restore_test

import (
	"fmt"
	"slices"
	"strconv"
	"strings"
	"testing"

	"amber/api"
	"amber/gate"
	"amber/isa"
	"amber/mem"
	"amber/run"
	"amber/walk"
)

// Guests that run, in a tree and in the one that is made of it.

// codePages: of each guest's program; they lie in the slots and on the pages 0 and 1.
const codePages = 2

// arguments: what the guests' calls ask for, by number.
var arguments = []string{
	"", "code", "", "v slot write", "v", "slot rights", "slot es rights", "slot", "slot", "f e x", "es pc", "es bits", "", "es", "value",
	"slot", "slot sector v", "slot sector v", "v write", "es v slot write", "", "es", "es r value", "es r", "",
}

// village: a tree of guests, known by the slot of environment 0's that names its root.
type village struct {
	k    *gate.Kernel
	slot int
}

func (v village) root() int { return envAt(v.k, 0, v.slot) }

func (v village) tree() []int {
	l, _ := v.k.Tree(v.root())
	return l
}

// found makes a village of some guests below environment 0.
func found(t *testing.T, k *gate.Kernel, d *dice) village {
	t.Helper()
	v := village{k, do(t, k, 0, api.CallSpawn, 24, 5, 0)}
	v.settle(t, d, 0)
	for range 2 {
		v.settle(t, d, do(t, k, 0, api.NatNew, v.slot, 0, d.of(4, 6, 7), d.below(2), 0))
	}
	for place := range 3 {
		for at := 3; at < 6; at++ {
			do(t, k, 0, api.NatSelf, v.slot, d.below(3), place, at, d.of(15, 15, 15, 7, 3))
		}
	}
	for place, env := range v.tree() {
		for range 2 {
			k.Call(0, request(api.NatCopy, v.slot, place, d.below(3), d.below(3), -1, d.of(15, 7, 3, 1)))
		}
		k.Call(env, request(api.CallDerive, d.below(3), 15))
	}
	return v
}

// settle gives the environment at a place its frames and its program, and lets it go.
func (v village) settle(t *testing.T, d *dice, place int) {
	t.Helper()
	words := d.program(codePages * api.PageWords)
	env := v.tree()[place]
	for slot := range codePages {
		do(t, v.k, env, api.CallAlloc)
		v.k.Call(env, api.Request{Call: api.NatFill, A: [6]int{slot}, Data: mem.Pack(api.Page(words[slot*api.PageWords:]))})
		do(t, v.k, env, api.CallMap, slot, slot, 1)
	}
	do(t, v.k, env, api.CallAlloc)
	v.set(place, d.of(api.Ready, api.Ready, api.Ready, api.Idle), 0, api.Regs{})
}

func (v village) set(place, state, bits int, r api.Regs) {
	var p api.Page
	copy(p[:], append(slices.Clone(r.R[:]), r.PC))
	v.k.Call(0, api.Request{Call: api.NatSet, A: [6]int{v.slot, place, state, 0, bits}, Data: mem.Pack(p)[:36]})
}

// stir wakes guests that stopped, and turns flags of those below the root.
func (v village) stir(d dice) {
	for place, env := range v.tree() {
		x, _ := v.k.Env(env)
		if x.State != api.Ready && !d.one(5) {
			for slot := range codePages {
				v.k.Call(0, request(api.NatMapIn, v.slot, place, slot, slot, 1))
			}
			x.Regs.PC = uint32(d.below(codePages * api.PageWords))
			v.set(place, api.Ready, d.of(0, 0, 5), x.Regs)
		}
		if place > 0 && d.one(4) {
			v.k.Call(0, request(api.NatFreeze, v.slot, place, d.of(0, 0, 1)))
		}
	}
}

func (d *dice) picks(n int) []api.Pick {
	var l []api.Pick
	for range n {
		l = append(l, api.Pick{K: d.of(0, 0, 0, 1, 1, 2, 2, 3, 4, d.of(6, -1)), Steps: d.of(1, 2, 7, 20, 50, 70, 120, d.of(0, -3))})
	}
	return l
}

func (d *dice) answers() []uint32 {
	var l []uint32
	for range d.below(6) {
		l = append(l, uint32(d.of(0, 1, 2, 3, 7, 1<<32-1)))
	}
	return l
}

// program: blocks of instructions, most of which can be done, and a jump back at its end.
func (d *dice) program(size int) []uint32 {
	var out []uint32
	for len(out) < size-1 {
		words, line, code := isa.Assemble(d.block())
		if code != api.OK {
			panic(fmt.Sprint("no block: line ", line, ": ", code))
		}
		out = append(out, words...)
	}
	back, _ := isa.Encode(api.Instr{Op: 21, Imm: -size})
	return append(out[:size-1], back)
}

func (d *dice) block() string {
	r := func() string { return "r" + strconv.Itoa(d.below(8)) }
	switch d.below(14) {
	case 0:
		return fmt.Sprintf("li r6, %d\nld %s, r6, %d", d.below(64), r(), d.of(0, 1, 9, 32, -3))
	case 1, 2:
		return fmt.Sprintf("li r6, %d\nst %s, r6, %d", 48+d.below(60), r(), d.of(0, 1, 9, -3))
	case 3:
		op := []string{"add", "sub", "mul", "and", "xor", "shl", "lt", "eq", "mov", "div"}[d.below(10)]
		return fmt.Sprintf("%s %s, %s", op, r(), r())
	case 4:
		return fmt.Sprintf("%s %s, %d", []string{"jz", "jnz"}[d.below(2)], r(), d.below(4))
	case 5:
		// A child is made, given the code, and started.
		return fmt.Sprintf("li r1, 2\nli r2, 0\nli r3, 0\nsys 9\nmov r6, r1\nli r1, %d\nmov r2, r6\nli r3, 3\nsys 6\nmov r1, r6\nli r2, 0\nli r3, 0\nli r4, 1\nsys 19\nmov r1, r6\nli r2, %d\nsys 10", d.below(2), d.below(32))
	case 6:
		return "sys 24\nmov r7, r1"
	}
	return d.call()
}

// call: a system call and what it asks for; those that end things are rarer.
func (d *dice) call() string {
	call := d.below(25)
	if slices.Contains([]int{1, 4, 7, 8, 12, 13}, call) && d.one(2) {
		call = d.of(0, 2, 3, 5, 6, 9, 14, 15, 20, 24)
	}
	if d.one(25) {
		call = d.of(25, 32, 38, 46, 300)
	}
	var b strings.Builder
	if call < len(arguments) {
		for i, name := range strings.Fields(arguments[call]) {
			fmt.Fprintf(&b, "li r%d, %d\n", i+1, d.argument(name))
		}
	}
	fmt.Fprint(&b, "sys ", call)
	return b.String()
}

func (d *dice) argument(name string) int {
	if d.one(20) {
		return d.of(-1, 16, 48, 32767)
	}
	switch name {
	case "slot":
		return d.of(0, 1, 2, 2, 3, 4, 5, 6, 7)
	case "es":
		return d.of(3, 4, 5, d.below(9))
	case "rights":
		return d.of(15, 15, 7, 3, 1, d.below(16))
	case "write", "e", "x":
		return d.of(0, 1)
	case "v":
		return d.of(0, 1, 2, 2, 3)
	case "r":
		return d.below(9)
	}
	return d.below(6)
}

// withoutSerials: the events, with nothing told that a guest can't see.
func withoutSerials(events []api.Event) []api.Event {
	l := slices.Clone(events)
	for i := range l {
		l[i].Serial = 0
	}
	return l
}

// alongside runs all villages by the same picks and answers, and holds what is told and left of the others against the first; how many events there were.
func alongside(t *testing.T, what string, d *dice, first village, others ...village) int {
	t.Helper()
	picks, answers := d.picks(8), d.answers()
	want, code := run.Run(first.k, first.root(), picks, answers)
	if code != api.OK {
		t.Fatalf("%s: Run: %d", what, code)
	}
	f := kindsOfOuts(read(t, first.k, 0, first.slot))
	for i, v := range others {
		got, code := run.Run(v.k, v.root(), picks, answers)
		if code != api.OK || !slices.Equal(withoutSerials(got), withoutSerials(want)) {
			t.Fatalf("P18.3: %s: the other %d: %+v, %d, want %+v", what, i, got, code, want)
		}
		if g := kindsOfOuts(read(t, v.k, 0, v.slot)); !same(g, f) {
			t.Fatalf("P18.3: %s: the other %d is %+v, want %+v", what, i, g, f)
		}
		for place, env := range v.tree() {
			firsts := first.tree()[place]
			if p, q := left(v.k, env), left(first.k, firsts); p != q || words(v.k, env) != words(first.k, firsts) {
				t.Fatalf("P18.3: %s: the other %d: place %d has left %v and reads %v, want %v and %v", what, i, place, p, words(v.k, env), q, words(first.k, firsts))
			}
		}
	}
	return len(want)
}

// kindsOfOuts: a frame whose last owner dropped it is an out from then on, in each village another.
func kindsOfOuts(f api.Forest) api.Forest {
	for i := range f.Outs {
		f.Outs[i].Serial = 0
	}
	return f
}

// word: what a guest finds at an address.
type word struct {
	v    uint32
	code api.Errno
}

func words(k *gate.Kernel, env int) (l [api.MaxPages * api.PageWords]word) {
	for addr := range l {
		l[addr].v, l[addr].code = k.Load(env, uint32(addr))
	}
	return l
}

// thawed: a village that may run.
func thawed(t *testing.T, k *gate.Kernel, slot int) village {
	t.Helper()
	if _, code := walk.Freeze(k, 0, slot, false); code != api.OK {
		t.Fatalf("no Freeze: %d", code)
	}
	return village{k, slot}
}

// TestNoGuestTellsThemApart: P18.3: in one kernel, and the restored one in a kernel of its own.
func TestNoGuestTellsThemApart(t *testing.T) {
	told, outs := 0, 0
	for seed := range 60 {
		d := dice(seed)
		m := newMachine()
		s := opened(t, m.k, 0, 31)
		v := found(t, m.k, &d)
		run.Run(m.k, v.root(), d.picks(d.below(8)), d.answers())
		f := read(t, m.k, 0, v.slot)
		if len(f.Outs) > 0 {
			// A frame that nobody owns any more is outside, and shared by both.
			outs++
			continue
		}
		saved(t, m.k, s, 0, v.slot, true)
		here := thawed(t, m.k, m.builds(t, fmt.Sprint("seed ", seed), 0, f))
		o := m.copied(t)
		slot, code := o.restore(t, fmt.Sprint("seed ", seed), o.k, opened(t, o.k, 0, 31), 0)
		if code != api.OK {
			t.Fatalf("P18.7: seed %d: Restore: %d", seed, code)
		}
		there := thawed(t, o.k, slot)
		for round := range 6 {
			what := fmt.Sprintf("seed %d, round %d", seed, round)
			told += alongside(t, what, &d, v, here, there)
			for _, x := range []village{v, here, there} {
				x.stir(d)
			}
		}
	}
	if told < 4000 || outs > 20 {
		t.Errorf("P18.3: only %d events were told, %d villages had outs", told, outs)
	}
}

// TestFrozenTillThawed: P18.3: nothing in the new tree runs till its root is thawed.
func TestFrozenTillThawed(t *testing.T) {
	d := dice(3)
	m := newMachine()
	v := found(t, m.k, &d)
	slot := m.builds(t, "frozen", 0, read(t, m.k, 0, v.slot))
	before := m.shape()
	events, code := run.Run(m.k, envAt(m.k, 0, slot), []api.Pick{{K: 0, Steps: 9}, {K: 1, Steps: 9}}, nil)
	if code != api.OK || len(events) != 2 || events[0].Kind != api.EvNone || events[1].Kind != api.EvNone {
		t.Errorf("P18.3: %+v, %d", events, code)
	}
	m.unchanged(t, "P18.3: frozen", before)
}

// TestSharedOut: P18.3 with outs: a frame of the caller's that both may write is one frame, and a notice from outside wakes both alike.
func TestSharedOut(t *testing.T) {
	m := newMachine()
	do(t, m.k, 0, api.CallAlloc)
	tree := do(t, m.k, 0, api.CallSpawn, 4, 0, 0)
	do(t, m.k, 0, api.CallGrant, 0, tree, 3)
	do(t, m.k, 1, api.CallMap, 2, 0, 1)
	do(t, m.k, 0, api.CallStart, tree, 0)
	do(t, m.k, 1, api.CallWait)
	slot := m.builds(t, "P18.3: an out", 0, read(t, m.k, 0, tree))
	stored(t, m.k, 2, 64, 5)
	if v, _ := m.k.Load(1, 64); v != 5 {
		t.Errorf("P18.3: Load(1, 64) = %d", v)
	}
	for _, es := range []int{tree, slot} {
		do(t, m.k, 0, api.CallNotify, es, 6)
		if x, _ := m.k.Env(envAt(m.k, 0, es)); x.State != api.Ready || x.Regs.R[1] != 6 {
			t.Errorf("P18.3: %+v", x)
		}
	}
	do(t, m.k, 0, api.CallRevoke, 0)
	if n := len(held(m.k, 1, 0)) + len(held(m.k, 2, 0)); n != 0 {
		t.Errorf("P18.4: %d capabilities are left behind a revoke of the giver", n)
	}
}
