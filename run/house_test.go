package run_test

import (
	"reflect"
	"slices"
	"testing"

	"amber/api"
	"amber/disk"
	"amber/gate"
	"amber/isa"
	"amber/mem"
	"amber/run"
)

// house: the kernel of the chapter's examples: environment 1 below environment 0, with the program on its page 0, started.
func house(t *testing.T, program string) *gate.Kernel {
	t.Helper()
	k := gate.Boot(disk.New(), 1)
	do(t, k, 0, api.CallSpawn, 8, 2, 0)
	do(t, k, 0, api.CallAlloc)
	fill(t, k, 0, 1, program)
	do(t, k, 0, api.CallGrant, 1, 0, 3)
	do(t, k, 0, api.CallMapIn, 0, 0, 0, 1)
	do(t, k, 0, api.CallStart, 0, 0)
	return k
}

// lodger: a child of an environment, with the program on a page 0 of its own, started; the slot of its parent's capability on it, and its number.
func lodger(t *testing.T, k *gate.Kernel, parent int, program string) (int, int) {
	t.Helper()
	slot := do(t, k, parent, api.CallSpawn, 2, 0, 0)
	tree, _ := k.Tree(parent)
	env := tree[len(tree)-1]
	do(t, k, env, api.CallAlloc)
	fill(t, k, env, 0, program)
	do(t, k, env, api.CallMap, 0, 0, 1)
	do(t, k, parent, api.CallStart, slot, 0)
	return slot, env
}

func fill(t *testing.T, k *gate.Kernel, env, slot int, program string) {
	t.Helper()
	words, line, code := isa.Assemble(program)
	if code != api.OK || len(words) > api.PageWords {
		t.Fatalf("no program: line %d: %d: %s", line, code, program)
	}
	var p api.Page
	copy(p[:], words)
	if got := k.Call(env, api.Request{Call: api.NatFill, A: [6]int{slot}, Data: mem.Pack(p)}); got.Code != api.OK {
		t.Fatalf("fill: %d", got.Code)
	}
}

// do makes a call that must be done; its V0.
func do(t *testing.T, k *gate.Kernel, env, call int, a ...int) int {
	t.Helper()
	r := api.Request{Call: call}
	copy(r.A[:], a)
	got := k.Call(env, r)
	if got.Code != api.OK {
		t.Fatalf("%d: %s %v: %d", env, gate.Name(call), a, got.Code)
	}
	return got.V[0]
}

// put sets an environment's state, code, bits and registers, whatever they were.
func put(t *testing.T, k *gate.Kernel, env, state, code, bits int, r api.Regs) {
	t.Helper()
	var p api.Page
	copy(p[:], append(slices.Clone(r.R[:]), r.PC))
	q := api.Request{Call: api.NatSet, A: [6]int{-1, 0, state, code, bits}, Data: mem.Pack(p)[:36]}
	if got := k.Call(env, q); got.Code != api.OK {
		t.Fatalf("set: %d", got.Code)
	}
}

// picks: places and steps, by turns.
func picks(n ...int) []api.Pick {
	var l []api.Pick
	for i := 0; i < len(n); i += 2 {
		l = append(l, api.Pick{K: n[i], Steps: n[i+1]})
	}
	return l
}

// runs: a run below a root that must tell just these events.
func runs(t *testing.T, promise string, k *gate.Kernel, root int, p []api.Pick, answers []uint32, want ...api.Event) {
	t.Helper()
	got, code := run.Run(k, root, p, answers)
	if code != api.OK || !slices.Equal(got, want) {
		t.Errorf("%s: Run(%d, %v, %v) = %+v, %d, want %+v", promise, root, p, answers, got, code, want)
	}
}

// steps: a step of an environment that must tell just this event, and take that many answers.
func steps(t *testing.T, promise string, k *gate.Kernel, env int, answers []uint32, want api.Event, taken int) {
	t.Helper()
	got, n := run.Step(k, env, answers)
	if got != want || n != taken {
		t.Errorf("%s: Step(%d, %v) = %+v, %d, want %+v, %d", promise, env, answers, got, n, want, taken)
	}
}

func look(t *testing.T, k *gate.Kernel, env int) api.Env {
	t.Helper()
	x, code := k.Env(env)
	if code != api.OK {
		t.Fatalf("no environment %d", env)
	}
	return x
}

// changed: the state is what it was but for what is said of one environment.
func changed(t *testing.T, where string, k *gate.Kernel, before api.State, env int, change func(x *api.Env)) {
	t.Helper()
	for i := range before.Envs {
		if before.Envs[i].Num == env {
			change(&before.Envs[i].Env)
		}
	}
	if now := k.State(); !reflect.DeepEqual(now, before) {
		t.Errorf("%s: the state is %+v, want %+v", where, now, before)
	}
}

func unchanged(t *testing.T, where string, k *gate.Kernel, before api.State) {
	t.Helper()
	changed(t, where, k, before, -1, nil)
}

// sys, fell, end, none: events.
func sys(step, call int, code api.Errno, a [5]uint32, v ...uint32) api.Event {
	e := api.Event{Kind: api.EvSys, Steps: step, Call: call, Code: code, A: a}
	copy(e.V[:], v)
	return e
}

func fell(step int, code api.Errno) api.Event {
	return api.Event{Kind: api.EvFault, Steps: step, Code: code}
}

func end(n int) api.Event { return api.Event{Kind: api.EvEnd, Steps: n} }

func none() api.Event { return api.Event{Kind: api.EvNone} }

// of: the event with another place, on the thing with that serial.
func of(e api.Event, place, serial int) api.Event {
	e.K, e.Serial = place, serial
	return e
}

// a: the words that a call is given.
func a(n ...uint32) [5]uint32 {
	var w [5]uint32
	copy(w[:], n)
	return w
}
