package replay_test

import (
	"bytes"
	"reflect"
	"slices"
	"testing"

	"amber/api"
	"amber/disk"
	"amber/gate"
	"amber/isa"
	"amber/mem"
)

// machine: a disk and a kernel over it.
type machine struct {
	d *disk.Disk
	k *gate.Kernel
}

func newMachine() machine {
	d := disk.New()
	return machine{d, gate.Boot(d, 1)}
}

// rebooted: the same disk, behind a crash.
func (m machine) rebooted() machine {
	m.d.Crash(nil)
	return machine{m.d, gate.Boot(m.d, m.k.Serial())}
}

// copied: a machine of its own over a copy of the medium.
func (m machine) copied(t *testing.T) machine {
	t.Helper()
	d, code := disk.Of(m.d.Medium())
	if code != api.OK {
		t.Fatalf("no copy of the disk: %d", code)
	}
	return machine{d, gate.Boot(d, m.k.Serial())}
}

// shape: all that can be seen of a machine.
type shape struct {
	state   api.State
	medium  []byte
	pending []int
	acts    int
}

func (m machine) shape() shape {
	return shape{m.k.State(), m.d.Medium(), m.d.Pending(), m.d.Acts()}
}

// looksAs holds all that can be seen of a machine against what it must be.
func (m machine) looksAs(t *testing.T, what string, want shape) {
	t.Helper()
	now := m.shape()
	if !reflect.DeepEqual(now.state, want.state) {
		t.Fatalf("%s: the state is %+v, want %+v", what, now.state, want.state)
	}
	if !bytes.Equal(now.medium, want.medium) || !slices.Equal(now.pending, want.pending) || now.acts != want.acts {
		t.Fatalf("%s: the disk is another", what)
	}
}

// emits: the first program of chapter 12.
const emits = "li r1, 7\nsys 14\nsys 1"

// house: the kernel of chapter 12's examples: environment 1 below environment 0, with the program on its page 0, started.
func house(t *testing.T, program string) machine {
	t.Helper()
	m := newMachine()
	do(t, m.k, 0, api.CallSpawn, 8, 2, 0)
	do(t, m.k, 0, api.CallAlloc)
	fill(t, m.k, 0, 1, program)
	do(t, m.k, 0, api.CallGrant, 1, 0, 3)
	do(t, m.k, 0, api.CallMapIn, 0, 0, 0, 1)
	do(t, m.k, 0, api.CallStart, 0, 0)
	return m
}

func fill(t *testing.T, k *gate.Kernel, env, slot int, program string) {
	t.Helper()
	words, line, code := isa.Assemble(program)
	if code != api.OK || len(words) > api.PageWords {
		t.Fatalf("no program: line %d: %d: %s", line, code, program)
	}
	var p api.Page
	copy(p[:], words)
	if got := k.Call(env, api.Request{Call: api.NatFill, A: [6]int{slot}, Data: mem.Pack(p)}); got.Code != api.OK {
		t.Fatalf("fill: %d", got.Code)
	}
}

func request(call int, a ...int) api.Request {
	r := api.Request{Call: call}
	copy(r.A[:], a)
	return r
}

// do makes a call that must be done; its V0.
func do(t *testing.T, k *gate.Kernel, env, call int, a ...int) int {
	t.Helper()
	got := k.Call(env, request(call, a...))
	if got.Code != api.OK {
		t.Fatalf("%d: %s %v: %d", env, gate.Name(call), a, got.Code)
	}
	return got.V[0]
}

func look(t *testing.T, k *gate.Kernel, env int) api.Env {
	t.Helper()
	x, code := k.Env(env)
	if code != api.OK {
		t.Fatalf("no environment %d", env)
	}
	return x
}

// picks: places and steps, by turns.
func picks(n ...int) []api.Pick {
	var l []api.Pick
	for i := 0; i < len(n); i += 2 {
		l = append(l, api.Pick{K: n[i], Steps: n[i+1]})
	}
	return l
}

// sys, end, none: events.
func sys(step, call int, code api.Errno, a ...uint32) api.Event {
	e := api.Event{Kind: api.EvSys, Steps: step, Call: call, Code: code}
	copy(e.A[:], a)
	return e
}

func end(n int) api.Event { return api.Event{Kind: api.EvEnd, Steps: n} }

func none() api.Event { return api.Event{Kind: api.EvNone} }

// asked: an ask that was answered.
func asked(step int, v uint32) api.Event {
	e := sys(step, api.CallAsk, api.OK)
	e.V[0] = v
	return e
}

// withoutSerials: the events, with nothing told that a guest can't see.
func withoutSerials(events []api.Event) []api.Event {
	l := slices.Clone(events)
	for i := range l {
		l[i].Serial = 0
	}
	return l
}
