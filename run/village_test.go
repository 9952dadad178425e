package run_test

import (
	"fmt"
	"slices"
	"strconv"
	"strings"
	"testing"

	"amber/api"
	"amber/disk"
	"amber/gate"
	"amber/isa"
	"amber/mem"
)

// dice: numbers by a fixed rule, so that each run of the test is the same.
type dice uint64

func (d *dice) below(n int) int {
	*d = *d*6364136223846793005 + 1442695040888963407
	return int(uint64(*d)>>33) % n
}

func (d *dice) of(l ...int) int { return l[d.below(len(l))] }

// village: a tree of environments with guests in a kernel where others live too. It is known by its root; its environments by their places, so that two kernels can hold the same one.
type village struct {
	d    *disk.Disk
	k    *gate.Kernel
	root int
}

// codePages: of each guest's program; they lie in the slots and on the pages 0 and 1.
const codePages = 2

// arguments: what the guests' calls ask for, by number.
var arguments = []string{
	"", "code", "", "v slot write", "v", "slot rights", "slot es rights", "slot", "slot", "f e x", "es pc", "es bits", "", "es", "value",
	"slot", "ext sector v", "ext sector v", "v write", "es v slot write", "", "es", "es r value", "es r", "",
}

// found builds a village below environment 0 by the dice. Noise is what others do in between.
func found(t *testing.T, seed int, noise func(v *village)) *village {
	t.Helper()
	d := dice(seed)
	x := disk.New()
	v := &village{d: x, k: gate.Boot(x, 1+seed%5)}
	noise(v)
	do(t, v.k, 0, api.CallSpawn, 44, 10, 6)
	all, _ := v.k.Tree(0)
	v.root = all[len(all)-1]
	v.settle(t, &d, 0)
	size := 3 + d.below(3)
	for place := 1; place < size; place++ {
		noise(v)
		v.settle(t, &d, v.bear(t, &d))
	}
	noise(v)
	for place := range v.size() {
		for at := 3; at < 5; at++ {
			do(t, v.k, v.root, api.NatSelf, -1, d.below(v.size()), place, at, d.of(15, 15, 15, 7, 3, 1))
		}
		v.k.Call(v.at(place), api.Request{Call: api.NatClaim, A: [6]int{-1}})
	}
	v.share(&d)
	return v
}

func (v *village) at(place int) int {
	tree, _ := v.k.Tree(v.root)
	return tree[place]
}

func (v *village) size() int {
	tree, _ := v.k.Tree(v.root)
	return len(tree)
}

// settle gives the environment at a place its frames and its program, and lets it go.
func (v *village) settle(t *testing.T, d *dice, place int) {
	t.Helper()
	words := d.program(codePages * api.PageWords)
	env := v.at(place)
	for slot := range codePages {
		do(t, v.k, env, api.CallAlloc)
		p := api.Page(words[slot*api.PageWords:])
		v.k.Call(env, api.Request{Call: api.NatFill, A: [6]int{slot}, Data: mem.Pack(p)})
		do(t, v.k, env, api.CallMap, slot, slot, 1)
	}
	do(t, v.k, env, api.CallAlloc)
	put(t, v.k, env, d.of(api.Ready, api.Ready, api.Ready, api.Idle), 0, 0, api.Regs{})
}

// bear makes a child of whichever has room for one, else of the root; its place.
func (v *village) bear(t *testing.T, d *dice) int {
	t.Helper()
	if parent := d.below(v.size()); parent > 0 {
		r := api.Request{Call: api.NatNew, A: [6]int{-1, parent, 4, 0, 0}}
		if got := v.k.Call(v.root, r); got.Code == api.OK {
			return got.V[0]
		}
	}
	return do(t, v.k, v.root, api.NatNew, -1, 0, 9, 1, 1)
}

// share lays capabilities of one into the list of another, where there is room.
func (v *village) share(d *dice) {
	for range 3 {
		v.native(api.NatCopy, -1, d.below(v.size()), d.below(6), d.below(v.size()), -1, d.of(15, 7, 3, 1))
	}
}

// native makes a call in the root's name, be it refused or not.
func (v *village) native(call int, n ...int) {
	r := api.Request{Call: call}
	copy(r.A[:], n)
	v.k.Call(v.root, r)
}

// stir wakes guests that stopped, maps their code anew, and turns flags: what a script does between runs.
func (v *village) stir(t *testing.T, d *dice) {
	t.Helper()
	for place := range v.size() {
		x := look(t, v.k, v.at(place))
		if x.State != api.Ready && d.below(6) > 0 {
			for slot := range codePages {
				v.native(api.NatMapIn, -1, place, slot, slot, 1)
			}
			x.Regs.PC = uint32(d.below(codePages * api.PageWords))
			put(t, v.k, v.at(place), api.Ready, d.below(9), d.of(0, 0, 5), x.Regs)
		}
		flag := d.below(12)
		if flag < 3 {
			v.native(api.NatFreeze, -1, place, flag/2)
		}
	}
	v.share(d)
}

// picks: of places that are there mostly, all together within the limit of a run.
func (d *dice) picks(n int) []api.Pick {
	var l []api.Pick
	for range n {
		l = append(l, api.Pick{K: d.of(0, 0, 1, 1, 2, 2, 2, 3, 3, 4, 5, d.of(6, -1, 99)), Steps: d.of(1, 2, 3, 7, 20, 50, 70, 120, 200, d.of(0, -3))})
	}
	return l
}

func (d *dice) answers() []uint32 {
	var l []uint32
	for range d.below(6) {
		l = append(l, uint32(d.of(0, 1, 2, 3, 7, 1<<32-1)))
	}
	return l
}

// program: blocks of instructions, most of which can be done, and a jump back at its end.
func (d *dice) program(size int) []uint32 {
	var out []uint32
	for len(out) < size-1 {
		words, line, code := isa.Assemble(d.block())
		if code != api.OK {
			panic(fmt.Sprint("no block: line ", line, ": ", code))
		}
		out = append(out, words...)
	}
	back, _ := isa.Encode(api.Instr{Op: 21, Imm: -size})
	return append(out[:size-1], back)
}

func (d *dice) block() string {
	r := func() string { return "r" + strconv.Itoa(d.below(8)) }
	switch d.below(14) {
	case 0:
		return fmt.Sprintf("li r6, %d\nld %s, r6, %d", d.below(64), r(), d.of(0, 1, 9, 32, -3))
	case 1:
		return fmt.Sprintf("li r6, %d\nst %s, r6, %d", 48+d.below(60), r(), d.of(0, 1, 9, -3))
	case 2:
		op := []string{"add", "sub", "mul", "and", "xor", "shl", "lt", "eq", "mov", "div"}[d.below(10)]
		return fmt.Sprintf("%s %s, %s", op, r(), r())
	case 3:
		return fmt.Sprintf("%s %s, %d", []string{"jz", "jnz"}[d.below(2)], r(), d.below(4))
	case 4:
		// A child is made, given the code, and started.
		return fmt.Sprintf("li r1, 2\nli r2, 0\nli r3, 0\nsys 9\nmov r6, r1\nli r1, %d\nmov r2, r6\nli r3, 3\nsys 6\nmov r1, r6\nli r2, 0\nli r3, 0\nli r4, 1\nsys 19\nmov r1, r6\nli r2, %d\nsys 10", d.below(2), d.below(32))
	case 5:
		if d.below(4) == 0 {
			return fmt.Sprintf(".word %d", d.below(1<<29))
		}
		return "sys 24\nmov r7, r1"
	}
	return d.call()
}

// call: a system call and what it asks for; those that end things are rarer.
func (d *dice) call() string {
	call := d.below(25)
	if (call == 1 || call == 4 || call == 7 || call == 8 || call == 12 || call == 13) && d.below(2) == 0 {
		call = d.of(0, 2, 3, 5, 6, 9, 14, 15, 20, 24)
	}
	if d.below(25) == 0 {
		call = d.of(25, 32, 38, 46, 300)
	}
	var b strings.Builder
	if call < len(arguments) {
		for i, name := range strings.Fields(arguments[call]) {
			fmt.Fprintf(&b, "li r%d, %d\n", i+1, d.argument(name))
		}
	}
	fmt.Fprint(&b, "sys ", call)
	return b.String()
}

func (d *dice) argument(name string) int {
	if d.below(20) == 0 {
		return d.of(-1, 16, 48, 32767)
	}
	switch name {
	case "slot":
		return d.of(0, 1, 2, 2, 3, 4, 5, 6, 7)
	case "es":
		return d.of(3, 3, 4, 4, d.below(9))
	case "ext":
		return d.of(5, 5, 5, 6)
	case "rights":
		return d.of(15, 15, 7, 3, 1, d.below(16))
	case "write", "e", "x":
		return d.of(0, 1)
	case "v":
		return d.of(0, 1, 2, 2, 3)
	case "r":
		return d.below(9)
	}
	return d.below(6)
}

// picture tells a tree without numbers and serials of frames, environments and extents: things by first sight.
func picture(k *gate.Kernel, root int) string {
	s := k.State()
	tree, _ := k.Tree(root)
	var b strings.Builder
	var seen []string
	thing := func(c api.Cap) int {
		name := fmt.Sprint(c.Kind, c.Obj, c.Serial)
		if !slices.Contains(seen, name) {
			seen = append(seen, name)
			for _, f := range s.Frames {
				if c.Kind == api.KindFrame && f.Num == c.Obj {
					fmt.Fprintln(&b, "page", f.Page, f.Frame.Dirty)
				}
			}
		}
		return slices.Index(seen, name)
	}
	for place, env := range tree {
		for _, x := range s.Envs {
			if x.Num == env {
				fmt.Fprintln(&b, "env", slices.Index(tree, x.Env.Parent), x.Env.State, x.Env.Code, x.Env.Bits, x.Env.Frozen, x.Env.Regs, x.Env.Quota, x.Env.Left)
			}
		}
		for _, c := range s.Caps {
			if c.Held.Env == env {
				named := thing(c.Held.Cap)
				fmt.Fprintln(&b, "cap", place, c.Held.Slot, c.Held.Cap.Kind, c.Held.Cap.Rights, named, slices.Index(tree, c.From.Env), c.From.Slot)
			}
		}
		for _, m := range s.Maps {
			if m.Env == env {
				fmt.Fprintln(&b, "map", place, m.V, m.Slot, m.Write)
			}
		}
	}
	return b.String()
}
