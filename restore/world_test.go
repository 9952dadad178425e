package restore_test

import (
	"bytes"
	"fmt"
	"reflect"
	"slices"
	"testing"

	"amber/api"
	"amber/ckpt"
	"amber/disk"
	"amber/gate"
	"amber/restore"
	"amber/store"
	"amber/walk"
)

// What the tests share: machines, what can be seen of them, forests, and Builds that are held against the model.

var none = api.Place{Env: -1, Slot: -1}

// machine: a disk and a kernel over it.
type machine struct {
	d *disk.Disk
	k *gate.Kernel
}

func newMachine() machine {
	d := disk.New()
	return machine{d, gate.Boot(d, 1)}
}

// rebooted: the same disk, behind a crash.
func (m machine) rebooted() machine {
	m.d.Crash(nil)
	return machine{m.d, gate.Boot(m.d, m.k.Serial())}
}

// copied: a machine of its own over a copy of the medium.
func (m machine) copied(t *testing.T) machine {
	t.Helper()
	d, code := disk.Of(m.d.Medium())
	if code != api.OK {
		t.Fatalf("no copy of the disk: %d", code)
	}
	return machine{d, gate.Boot(d, m.k.Serial())}
}

// goDown takes the disk down.
func (m machine) goDown() {
	m.d.Arm(0)
	m.d.Flush()
}

func request(call int, a ...int) api.Request {
	r := api.Request{Call: call}
	copy(r.A[:], a)
	return r
}

// do makes a call that must be done; its V0.
func do(t *testing.T, k *gate.Kernel, env, call int, a ...int) int {
	t.Helper()
	got := k.Call(env, request(call, a...))
	if got.Code != api.OK {
		t.Fatalf("%d: %s %v: %d", env, gate.Name(call), a, got.Code)
	}
	return got.V[0]
}

func stored(t *testing.T, k *gate.Kernel, env int, addr, v uint32) {
	t.Helper()
	if code := k.Store(env, addr, v); code != api.OK {
		t.Fatalf("Store(%d, %d, %d): %d", env, addr, v, code)
	}
}

func opened(t *testing.T, k *gate.Kernel, env, home int) *store.Store {
	t.Helper()
	s, code := store.Open(k, env, home)
	if s == nil || code != api.OK {
		t.Fatalf("Open(k, %d, %d): %d", env, home, code)
	}
	return s
}

func saved(t *testing.T, k *gate.Kernel, s *store.Store, env, slot int, full bool) {
	t.Helper()
	if _, code := ckpt.Checkpoint(k, s, env, slot, full); code != api.OK {
		t.Fatalf("Checkpoint(%d, %d, %v): %d", env, slot, full, code)
	}
}

// example: the machine of the chapter's examples, where the frame of slot 0 is granted with these rights. Environment 0: a frame in slot 0, environment 1 in slot 1, which has that frame in its slot 0, one of its own in slot 1 and a copy of it in slot 2.
func example(t *testing.T, rights int) machine {
	t.Helper()
	m := newMachine()
	do(t, m.k, 0, api.CallAlloc)
	do(t, m.k, 0, api.CallSpawn, 6, 1, 0)
	do(t, m.k, 0, api.CallGrant, 0, 1, rights)
	do(t, m.k, 1, api.CallAlloc)
	do(t, m.k, 1, api.CallDerive, 1, 5)
	do(t, m.k, 1, api.CallMap, 3, 1, 1)
	stored(t, m.k, 1, 97, 7)
	do(t, m.k, 0, api.CallStart, 1, 96)
	return m
}

func read(t *testing.T, k *gate.Kernel, env, slot int) api.Forest {
	t.Helper()
	f, _, code := walk.Read(k, env, slot)
	if code != api.OK {
		t.Fatalf("Read(%d, %d): %d", env, slot, code)
	}
	return f
}

// cloned: nothing of it is shared with f.
func cloned(f api.Forest) api.Forest {
	f.Envs, f.Caps, f.Maps = slices.Clone(f.Envs), slices.Clone(f.Caps), slices.Clone(f.Maps)
	f.Pages, f.Outs = slices.Clone(f.Pages), slices.Clone(f.Outs)
	return f
}

// same: a nil list and an empty one are the same.
func same(a, b api.Forest) bool {
	return slices.Equal(a.Envs, b.Envs) && slices.Equal(a.Caps, b.Caps) && slices.Equal(a.Maps, b.Maps) && slices.Equal(a.Pages, b.Pages) && slices.Equal(a.Outs, b.Outs)
}

func left(k *gate.Kernel, env int) api.Quota {
	x, _ := k.Env(env)
	return x.Left
}

// build asks for a Plan and a Build, and holds what they answer and leave against the model and the promises.
func (m machine) build(t *testing.T, what string, env int, f api.Forest) (int, api.Errno) {
	t.Helper()
	before, given := m.shape(), cloned(f)
	want, slot, wanted := modelBuild(before.state, env, f)
	if code := restore.Plan(m.k, env, f); code != wanted {
		t.Fatalf("P18.1: %s: Plan(%d, %+v) = %d, want %d", what, env, f, code, wanted)
	}
	m.unchanged(t, "P18.1: Plan: "+what, before)
	got, code := restore.Build(m.k, env, f)
	m.held(t, what, before, env, got, code, slot, wanted, want)
	if !reflect.DeepEqual(given, cloned(f)) {
		t.Fatalf("P18.1: %s: the forest that was handed in is %+v, and was %+v", what, f, given)
	}
	if code == api.OK {
		m.looksAs(t, what, env, got, f)
	}
	return got, code
}

// held: an answer, and all that can be seen of the machine, is what the model says.
func (m machine) held(t *testing.T, what string, before shape, env, got int, code api.Errno, slot int, wanted api.Errno, want api.State) {
	t.Helper()
	if got != slot || code != wanted {
		t.Fatalf("P18.1: %s: in the name of %d: %d, %d, want %d, %d", what, env, got, code, slot, wanted)
	}
	if code != api.OK {
		m.unchanged(t, fmt.Sprintf("P18.4: %s: refused (%d)", what, code), before)
		return
	}
	onlyItsOwn(t, what, before.state, m.k.State(), env, got)
	before.state = want
	m.unchanged(t, "P18.1: "+what, before)
}

// looksAs: P18.2.
func (m machine) looksAs(t *testing.T, what string, env, slot int, f api.Forest) {
	t.Helper()
	if now, _, code := walk.Read(m.k, env, slot); code != api.OK || !same(now, f) {
		t.Fatalf("P18.2: %s: Read(%d, %d) = %+v, %d, want %+v", what, env, slot, now, code, f)
	}
}

// builds: a Build that must be done.
func (m machine) builds(t *testing.T, what string, env int, f api.Forest) int {
	t.Helper()
	slot, code := m.build(t, what, env, f)
	if code != api.OK {
		t.Fatalf("%s: Build(%d, %+v): %d", what, env, f, code)
	}
	return slot
}

func (m machine) refuses(t *testing.T, what string, env int, f api.Forest, want api.Errno) {
	t.Helper()
	if slot, code := m.build(t, what, env, f); slot != -1 || code != want {
		t.Errorf("%s: Build(%d, %+v) = %d, %d, want %d", what, env, f, slot, code, want)
	}
}

// restore likewise asks for a Restore.
func (m machine) restore(t *testing.T, what string, k *gate.Kernel, s *store.Store, env int) (int, api.Errno) {
	t.Helper()
	before := m.shape()
	want, slot, wanted := modelRestore(k, s, env)
	got, code := restore.Restore(k, s, env)
	m.held(t, what, before, env, got, code, slot, wanted, want)
	return got, code
}

func (m machine) refusesRestore(t *testing.T, what string, k *gate.Kernel, s *store.Store, env int, want api.Errno) {
	t.Helper()
	if slot, code := m.restore(t, what, k, s, env); slot != -1 || code != want {
		t.Errorf("%s: Restore(%d) = %d, %d, want %d", what, env, slot, code, want)
	}
}

// shape: all that can be seen of a machine.
type shape struct {
	state   api.State
	medium  []byte
	pending []int
	cached  [][]byte
	acts    int
	down    bool
}

func (m machine) shape() shape {
	s := shape{state: m.k.State(), medium: m.d.Medium(), pending: m.d.Pending(), acts: m.d.Acts(), down: m.d.Down()}
	for _, sector := range s.pending {
		b, _ := m.d.Read(sector)
		s.cached = append(s.cached, b)
	}
	return s
}

// differs: in what two shapes differ; "" if they don't.
func (s shape) differs(o shape) string {
	switch {
	case !reflect.DeepEqual(s.state, o.state):
		return fmt.Sprintf("the state is %+v, not %+v", s.state, o.state)
	case !bytes.Equal(s.medium, o.medium):
		return "the medium is another"
	case !slices.Equal(s.pending, o.pending) || !slices.EqualFunc(s.cached, o.cached, bytes.Equal):
		return fmt.Sprintf("the cache is %v, not %v", s.pending, o.pending)
	case s.acts != o.acts || s.down != o.down:
		return fmt.Sprintf("%d acts, down %v, not %d, %v", s.acts, s.down, o.acts, o.down)
	}
	return ""
}

func (m machine) unchanged(t *testing.T, what string, before shape) {
	t.Helper()
	if d := m.shape().differs(before); d != "" {
		t.Fatalf("%s: %s", what, d)
	}
}

// dice: numbers by a fixed rule, so that each run of the test is the same.
type dice uint64

func (d *dice) below(n int) int {
	*d = *d*6364136223846793005 + 1442695040888963407
	return int(uint64(*d)>>33) % n
}

func (d *dice) of(l ...int) int { return l[d.below(len(l))] }

// one tells something that happens once in n times.
func (d *dice) one(n int) bool { return d.below(n) == 0 }

func (d *dice) word() uint32 { return uint32(d.below(1<<16))<<16 | uint32(d.below(1<<16)) }
