package sched_test

import (
	"reflect"
	"slices"
	"testing"

	"amber/api"
	"amber/disk"
	"amber/gate"
	"amber/isa"
	"amber/mem"
	"amber/sched"
)

// spin: a guest that jumps on the spot.
const spin = "jmp -1"

// street: a kernel with guests below environment 0, a program each, on a page 0 of their own, started. Guest i is environment 1 + i, of serial 2 + 2 * i; environment 0's slot i names it.
func street(t *testing.T, programs ...string) *gate.Kernel {
	t.Helper()
	k := gate.Boot(disk.New(), 1)
	for _, program := range programs {
		lodger(t, k, 0, program)
	}
	return k
}

// lodger: a child of an environment, with the program on its page 0, started; its number.
func lodger(t *testing.T, k *gate.Kernel, parent int, program string) int {
	t.Helper()
	quota := []int{6, 2, 0}
	if parent != 0 {
		quota = []int{2, 0, 0} // out of its parent's
	}
	slot := do(t, k, parent, api.CallSpawn, quota...)
	tree, _ := k.Tree(parent)
	env := tree[len(tree)-1]
	do(t, k, env, api.CallAlloc)
	fill(t, k, env, 0, program)
	do(t, k, env, api.CallMap, 0, 0, 1)
	do(t, k, parent, api.CallStart, slot, 0)
	return env
}

func fill(t *testing.T, k *gate.Kernel, env, slot int, program string) {
	t.Helper()
	words, line, code := isa.Assemble(program)
	if code != api.OK || len(words) > api.PageWords {
		t.Fatalf("no program: line %d: %d: %s", line, code, program)
	}
	var p api.Page
	copy(p[:], words)
	if got := k.Call(env, api.Request{Call: api.NatFill, A: [6]int{slot}, Data: mem.Pack(p)}); got.Code != api.OK {
		t.Fatalf("fill: %d", got.Code)
	}
}

func request(call int, a ...int) api.Request {
	r := api.Request{Call: call}
	copy(r.A[:], a)
	return r
}

// do makes a call that must be done; its V0.
func do(t *testing.T, k *gate.Kernel, env, call int, a ...int) int {
	t.Helper()
	got := k.Call(env, request(call, a...))
	if got.Code != api.OK {
		t.Fatalf("%d: %s %v: %d", env, gate.Name(call), a, got.Code)
	}
	return got.V[0]
}

// flag sets or clears an environment's own flag.
func flag(t *testing.T, k *gate.Kernel, env, on int) {
	t.Helper()
	do(t, k, env, api.NatFreeze, -1, 0, on)
}

func look(t *testing.T, k *gate.Kernel, env int) api.Env {
	t.Helper()
	x, code := k.Env(env)
	if code != api.OK {
		t.Fatalf("no environment %d", env)
	}
	return x
}

// readies: who must be ready below a root, in order.
func readies(t *testing.T, k *gate.Kernel, root int, want ...int) {
	t.Helper()
	before := k.State()
	if got, code := sched.Ready(k, root); code != api.OK || !slices.Equal(got, want) {
		t.Errorf("P24.1: Ready(%d) = %v, %d, want %v", root, got, code, want)
	}
	if !reflect.DeepEqual(k.State(), before) {
		t.Errorf("P24.1: Ready(%d) changes the kernel", root)
	}
}

// drives: a drive that must choose just these and tell just these events.
func drives(t *testing.T, k *gate.Kernel, p *sched.Plan, root, turns, quantum int, answers []uint32, chosen []int, want ...api.Event) {
	t.Helper()
	events, got, code := sched.Drive(k, p, root, turns, quantum, answers)
	if code != api.OK || !slices.Equal(got, chosen) || !slices.Equal(events, want) {
		t.Errorf("P24.1: Drive(%d, %d, %d, %v) = %+v, %v, %d, want %+v, %v", root, turns, quantum, answers, events, got, code, want, chosen)
	}
}

// refusesDrive: a drive that must be refused, and change neither kernel nor plan. Either may be nil.
func refusesDrive(t *testing.T, k *gate.Kernel, p *sched.Plan, root, turns, quantum int, want api.Errno) {
	t.Helper()
	var state api.State
	var told []api.Share
	if k != nil {
		state = k.State()
	}
	if p != nil {
		told = p.Told()
	}
	events, chosen, code := sched.Drive(k, p, root, turns, quantum, []uint32{1, 2})
	if code != want || len(events) != 0 || len(chosen) != 0 {
		t.Errorf("P24.1: Drive(%d, %d, %d) = %v, %v, %d, want the error %d", root, turns, quantum, events, chosen, code, want)
	}
	if k != nil && !reflect.DeepEqual(k.State(), state) {
		t.Errorf("P24.1: Drive(%d, %d, %d) is refused and changes the kernel", root, turns, quantum)
	}
	if p != nil {
		tells(t, p, told...)
	}
}

// sys, fell, end: events.
func sys(place, step, call int, code api.Errno, a []uint32, v ...uint32) api.Event {
	e := api.Event{Kind: api.EvSys, K: place, Steps: step, Call: call, Code: code}
	copy(e.A[:], a)
	copy(e.V[:], v)
	return e
}

func fell(place, step int, code api.Errno) api.Event {
	return api.Event{Kind: api.EvFault, K: place, Steps: step, Code: code}
}

func end(place, n int) api.Event { return api.Event{Kind: api.EvEnd, K: place, Steps: n} }

// on: the event, of a call on the thing with that serial.
func on(e api.Event, serial int) api.Event {
	e.Serial = serial
	return e
}
