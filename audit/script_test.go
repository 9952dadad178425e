package audit_test

import (
	"fmt"
	"slices"
	"strings"
	"testing"

	"amber/api"
	"amber/ckpt"
	"amber/disk"
	"amber/gate"
	"amber/isa"
	"amber/mem"
	"amber/restore"
	"amber/run"
	"amber/store"
)

// Kernels that much was done with: calls of all kinds, guests that run, stores, disks that go down.

// world: a kernel, its disk, and the stores opened on it.
type world struct {
	*gate.Kernel
	d      *disk.Disk
	stores []*store.Store
}

func newWorld(serial int) *world {
	d := disk.New()
	return &world{Kernel: gate.Boot(d, serial), d: d}
}

// grown: a kernel behind so many acts.
func grown(t *testing.T, d *dice, acts int) *world {
	t.Helper()
	w := newWorld(1 + d.below(3))
	if !d.one(4) {
		w.plant(d)
	}
	for range acts {
		w.act(d)
	}
	return w
}

// plant makes some environments below environment 0 that share frames, handed on from one to the other.
func (w *world) plant(d *dice) {
	for range 3 {
		w.Call(0, request(api.CallSpawn, 12, 3, 5))
		w.Call(0, request(api.CallAlloc))
	}
	for range 2 {
		w.Call(0, request(api.NatNew, -1, 1+d.below(3), 5, 0, 1))
	}
	w.Call(0, request(api.NatClaim, -1))
	for range 40 {
		k := d.below(6)
		w.Call(0, request(api.NatCopy, -1, k, d.below(3+d.below(6)), d.below(6), -1, d.of(15, 15, 7)))
		w.Call(0, request(api.NatSelf, -1, k, d.below(6), -1, d.of(15, 7, 3)))
	}
}

// specs: what each call asks for, by number; inner is a slot of the list of another.
var specs = [api.NatEnd]string{
	1: "word", 3: "v frame flag", 4: "v", 5: "slot rights", 6: "slot es rights", 7: "slot", 8: "slot", 9: "f few few", 10: "es word", 11: "es word",
	13: "es", 14: "word", 15: "slot", 16: "ext sector v", 17: "ext sector v", 18: "v flag", 19: "es v inner flag", 21: "es", 22: "es few word", 23: "es few",
	32: "es", 33: "es k", 34: "es k", 35: "es k", 36: "es k inner", 37: "es k inner", 38: "es k flag", 39: "es k f few few", 40: "es k few word word", 41: "frame",
	42: "slot es k at rights", 43: "es k inner k at rights", 44: "es k k at rights", 45: "es k v inner flag", 46: "n", 47: "ext sector", 48: "ext sector",
}

// busy: the calls that build more often than those that tear down.
var busy = []int{2, 2, 2, 3, 3, 5, 5, 6, 6, 9, 9, 10, 11, 12, 16, 19, 22, 37, 37, 38, 39, 40, 41, 42, 42, 43, 43, 44, 44, 45, 46, 46, 48}

// slot: one of a holder's that has a capability of that kind (0: of any), where there is one.
func (d *dice) slot(s api.State, env, kind int) int {
	var l []int
	for _, c := range s.Caps {
		if c.Held.Env == env && (kind == 0 || c.Held.Cap.Kind == kind) {
			l = append(l, c.Held.Slot)
		}
	}
	if len(l) == 0 {
		return d.below(5)
	}
	return d.of(l...)
}

// argument: mostly a number that may well be.
func (d *dice) argument(s api.State, env, call int, name string) int {
	if d.one(40) {
		return d.odd()
	}
	switch name {
	case "slot", "frame", "ext":
		return d.slot(s, env, map[string]int{"frame": api.KindFrame, "ext": api.KindExtent}[name])
	case "es":
		if call >= api.NatCount && d.one(2) {
			return -1
		}
		return d.slot(s, env, api.KindEnv)
	case "inner":
		return d.slot(s, s.Envs[d.below(len(s.Envs))].Num, d.of(0, api.KindFrame))
	case "rights":
		return d.of(15, 15, 15, 7, 7, 5, 3, 1, 0, d.below(16))
	case "at":
		return d.of(-1, -1, d.below(12))
	case "n":
		return d.of(-1, d.below(32))
	case "f":
		return d.of(0, 2, 6, 14)
	case "flag":
		return d.below(2)
	case "sector":
		return d.below(3)
	case "word":
		return d.of(0, 1, 6, d.below(64), 1<<32-1)
	}
	return d.of(0, 0, 0, 1, 1, 2, 3)
}

// request: a call below the given number.
func (d *dice) request(s api.State, env, end int) api.Request {
	call := d.of(busy...)
	if call >= end || d.one(4) {
		call = d.below(end)
	}
	if slices.Contains([]int{api.CallDrop, api.CallRevoke, api.CallKill}, call) && !d.one(3) {
		call = d.of(api.CallAlloc, api.CallDerive, api.CallGrant, api.CallSpawn)
	}
	r := request(call)
	for i, name := range strings.Fields(specs[call]) {
		r.A[i] = d.argument(s, env, call, name)
	}
	if call == api.NatSet || call == api.NatFill || call == api.NatWrite {
		r.Data = make([]byte, map[int]int{api.NatSet: 36, api.NatFill: 128, api.NatWrite: 128}[call])
		r.Data[d.below(36)] = byte(d.below(256))
	}
	return r
}

// env: more often environment 0, which has most.
func (d *dice) env(s api.State) int {
	return s.Envs[d.below(d.of(1, len(s.Envs), len(s.Envs)))].Num
}

// act: one thing that may happen to a kernel.
func (w *world) act(d *dice) string {
	s := w.State()
	env := d.env(s)
	switch d.below(20) {
	case 0:
		return w.goOn(d, d.of(0, env))
	case 1:
		w.settle(d, env)
		return fmt.Sprint("settle ", env)
	case 2:
		w.Store(env, uint32(d.below(520)), uint32(d.below(9)))
		return fmt.Sprint("Store ", env)
	case 3:
		w.Fault(env, api.Errno(d.odd()))
		w.SetRegs(env, api.Regs{PC: uint32(d.below(64))})
		return fmt.Sprint("Fault, SetRegs ", env)
	case 4:
		return w.keep(d, d.of(0, env))
	case 5:
		return w.trouble(d)
	case 6:
		r := d.request(s, env, api.NatEnd)
		w.Guest(env, r)
		return fmt.Sprintf("Guest %d: %s %v", env, gate.Name(r.Call), r.A)
	}
	r := d.request(s, env, api.NatEnd)
	return fmt.Sprintf("%d: %s %v: %d", env, gate.Name(r.Call), r.A, w.Call(env, r).Code)
}

// codePages: of a guest's program, on its pages from 0 on.
const codePages = 2

// settle gives an environment a program and lets it go, as far as there is room.
func (w *world) settle(d *dice, env int) {
	words := d.program(codePages * api.PageWords)
	for v := range codePages {
		slot := w.Call(env, request(api.CallAlloc)).V[0]
		w.Call(env, api.Request{Call: api.NatFill, A: [6]int{slot}, Data: mem.Pack(api.Page(words[v*api.PageWords:]))})
		w.Call(env, request(api.CallUnmap, v))
		w.Call(env, request(api.CallMap, v, slot, 1))
	}
	w.Call(env, api.Request{Call: api.NatSet, A: [6]int{-1, 0, api.Ready}, Data: make([]byte, 36)})
}

// goOn lets the guests of a tree run.
func (w *world) goOn(d *dice, root int) string {
	if d.one(4) {
		run.Step(w.Kernel, root, []uint32{7})
		return fmt.Sprint("Step ", root)
	}
	var picks []api.Pick
	for range 1 + d.below(4) {
		picks = append(picks, api.Pick{K: d.below(5), Steps: d.of(1, 3, 9, 40)})
	}
	run.Run(w.Kernel, root, picks, []uint32{1, 2, 3})
	return fmt.Sprint("Run ", root, picks)
}

// program: calls with arguments that may well be, loads and stores, and a jump back at the end.
func (d *dice) program(size int) []uint32 {
	var out []uint32
	for len(out) < size-1 {
		words, line, code := isa.Assemble(d.block())
		if code != api.OK {
			panic(fmt.Sprint("no block: line ", line, ": ", code))
		}
		out = append(out, words...)
	}
	back, _ := isa.Encode(api.Instr{Op: 21, Imm: -size})
	return append(out[:size-1], back)
}

func (d *dice) block() string {
	if d.one(4) {
		return fmt.Sprintf("li r6, %d\n%s r%d, r6, %d", d.below(100), []string{"ld", "st"}[d.below(2)], d.below(6), d.below(20))
	}
	call := d.of(0, 2, 2, 3, 5, 5, 6, 6, 7, 8, 9, 9, 10, 11, 13, 14, 15, 18, 19, 22, 24, d.below(25), 38)
	var b strings.Builder
	for i := 1; i <= 4; i++ {
		fmt.Fprintf(&b, "li r%d, %d\n", i, d.of(0, 1, 2, 3, 3, 4, 5, 7, 15))
	}
	fmt.Fprint(&b, "sys ", call)
	return b.String()
}

// keep: a store is opened, committed to, woken from, or closed.
func (w *world) keep(d *dice, env int) string {
	if len(w.stores) == 0 || d.one(4) {
		if s, code := store.Open(w.Kernel, env, d.of(31, 30)); code == api.OK {
			w.stores = append(w.stores, s)
		}
		return fmt.Sprint("Open ", env)
	}
	s := w.stores[d.below(len(w.stores))]
	switch d.below(8) {
	case 0:
		s.Close()
		return "Close"
	case 1, 2, 3:
		restore.Restore(w.Kernel, s, env)
		return fmt.Sprint("Restore ", env)
	}
	ckpt.Checkpoint(w.Kernel, s, env, d.slot(w.State(), env, api.KindEnv), d.one(3))
	return fmt.Sprint("Checkpoint ", env)
}

// trouble: the disk goes down, comes up, is written to by others; behind a crash it is this kernel that goes on, or a new one.
func (w *world) trouble(d *dice) string {
	switch d.below(12) {
	case 0, 1, 2:
		w.d.Arm(d.below(5))
		return "Arm"
	case 3, 4, 5:
		w.d.Crash([]bool{d.one(2), d.one(2), d.one(2)})
		return "Crash"
	case 6:
		w.d.Crash(nil)
		w.Kernel, w.stores = gate.Boot(w.d, w.Serial()), nil
		return "Boot"
	}
	w.d.Edit(d.below(1024), d.below(128), []byte{byte(d.below(256))})
	return "Edit"
}

// treeOf: told by the model, so that what is asked for does not hang on the package.
func treeOf(s api.State, root int) []int {
	tree := treeModel(s, root)
	slices.Sort(tree)
	return tree
}
