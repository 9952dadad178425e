package rewind_test

import (
	"bytes"
	"fmt"
	"reflect"
	"slices"
	"testing"

	"amber/api"
	"amber/disk"
	"amber/gate"
	"amber/isa"
	"amber/mem"
	"amber/rewind"
	"amber/store"
	"amber/walk"
)

// What the tests share: machines, what can be seen of them and of trips, and the machine of the chapter's examples.

// machine: a disk, a kernel over it, and a store.
type machine struct {
	d *disk.Disk
	k *gate.Kernel
	s *store.Store
}

func newMachine() machine {
	d := disk.New()
	return machine{d: d, k: gate.Boot(d, 1)}
}

// counts: the guest of the chapter's examples, which counts in r4 and tells it.
const counts = "addi r4, 1\nmov r1, r4\nsys 14\njmp -4"

// house: the machine of the chapter's examples: the store in environment 0's slot 0, environment 1 in its slot 1, which has one frame, with the program, on its page 0.
func house(t *testing.T, program string) machine {
	t.Helper()
	m := newMachine()
	m.s = opened(t, m.k, 0, 31)
	do(t, m.k, 0, api.CallSpawn, 8, 2, 0)
	do(t, m.k, 0, api.CallAlloc)
	fill(t, m.k, 0, 2, program)
	do(t, m.k, 0, api.CallGrant, 2, 1, 15)
	do(t, m.k, 0, api.CallMapIn, 1, 0, 0, 1)
	do(t, m.k, 0, api.CallStart, 1, 0)
	do(t, m.k, 0, api.CallDrop, 2)
	return m
}

func opened(t *testing.T, k *gate.Kernel, env, home int) *store.Store {
	t.Helper()
	s, code := store.Open(k, env, home)
	if s == nil || code != api.OK {
		t.Fatalf("Open(k, %d, %d): %d", env, home, code)
	}
	return s
}

func fill(t *testing.T, k *gate.Kernel, env, slot int, program string) {
	t.Helper()
	words, line, code := isa.Assemble(program)
	if code != api.OK || len(words) > api.PageWords {
		t.Fatalf("no program: line %d: %d: %s", line, code, program)
	}
	var p api.Page
	copy(p[:], words)
	if got := k.Call(env, api.Request{Call: api.NatFill, A: [6]int{slot}, Data: mem.Pack(p)}); got.Code != api.OK {
		t.Fatalf("fill: %d", got.Code)
	}
}

func request(call int, a ...int) api.Request {
	r := api.Request{Call: call}
	copy(r.A[:], a)
	return r
}

// do makes a call that must be done; its V0.
func do(t *testing.T, k *gate.Kernel, env, call int, a ...int) int {
	t.Helper()
	got := k.Call(env, request(call, a...))
	if got.Code != api.OK {
		t.Fatalf("%d: %s %v: %d", env, gate.Name(call), a, got.Code)
	}
	return got.V[0]
}

func look(t *testing.T, k *gate.Kernel, env int) api.Env {
	t.Helper()
	x, code := k.Env(env)
	if code != api.OK {
		t.Fatalf("no environment %d", env)
	}
	return x
}

// goDown takes the disk down.
func (m machine) goDown() {
	m.d.Arm(0)
	m.d.Flush()
}

// shape: all that can be seen of a machine and its store.
type shape struct {
	state   api.State
	medium  []byte
	pending []int
	acts    int
	down    bool
	gen     int
	extents [][]int
}

func (m machine) shape() shape {
	s := shape{state: m.k.State(), medium: m.d.Medium(), pending: m.d.Pending(), acts: m.d.Acts(), down: m.d.Down()}
	if m.s != nil {
		s.gen, s.extents = m.s.Gen(), m.s.Extents()
	}
	return s
}

// differs: in what two shapes differ; "" if they don't.
func (s shape) differs(o shape) string {
	switch a, b := s.state, o.state; {
	case a.Serial != b.Serial:
		return fmt.Sprintf("the next serial is %d, not %d", a.Serial, b.Serial)
	case !slices.Equal(a.Envs, b.Envs):
		return fmt.Sprintf("the environments are %+v, not %+v", a.Envs, b.Envs)
	case !slices.Equal(a.Caps, b.Caps):
		return fmt.Sprintf("the capabilities are %+v, not %+v", a.Caps, b.Caps)
	case !reflect.DeepEqual(a, b):
		return fmt.Sprintf("pages, frames and extents are %+v, %+v, %+v, not %+v, %+v, %+v", a.Maps, a.Frames, a.Extents, b.Maps, b.Frames, b.Extents)
	case !bytes.Equal(s.medium, o.medium) || !slices.Equal(s.pending, o.pending) || s.acts != o.acts || s.down != o.down:
		return fmt.Sprintf("the disk is another: %d acts, down %v, %v waits, not %d, %v, %v", s.acts, s.down, s.pending, o.acts, o.down, o.pending)
	case s.gen != o.gen || !reflect.DeepEqual(s.extents, o.extents):
		return fmt.Sprintf("the store is another: %d, %v, not %d, %v", s.gen, s.extents, o.gen, o.extents)
	}
	return ""
}

// unchanged: the machine is as it was, but that so many serials were taken.
func (m machine) unchanged(t *testing.T, what string, before shape, serials int) {
	t.Helper()
	before.state.Serial += serials
	if d := m.shape().differs(before); d != "" {
		t.Fatalf("%s: %s", what, d)
	}
}

// post: all that a trip tells of itself.
type post struct {
	behind, all, slot int
	log               string
}

// String leaves the log out: it may be long.
func (p post) String() string {
	return fmt.Sprintf("%d of %d legs, slot %d, a log of %d bytes", p.behind, p.all, p.slot, len(p.log))
}

func postOf(x *rewind.Trip) post {
	behind, all := x.At()
	return post{behind, all, x.Slot(), string(x.Log())}
}

// begun: a trip that must begin.
func (m machine) begun(t *testing.T, env, slot int) *rewind.Trip {
	t.Helper()
	x, code := rewind.Start(m.k, m.s, env, slot)
	if x == nil || code != api.OK {
		t.Fatalf("P25.1: Start(%d, %d) = %v, %d", env, slot, x, code)
	}
	return x
}

// goes: a run that must be done, and tell just these events.
func goes(t *testing.T, x *rewind.Trip, p []api.Pick, answers []uint32, want ...api.Event) {
	t.Helper()
	l, code := x.Go(p, answers)
	if code != api.OK || !slices.Equal(l, want) {
		t.Fatalf("P25.1: Go(%v, %v) = %+v, %d, want %+v", p, answers, l, int(code), want)
	}
}

// ran: a run that must be done; its events.
func ran(t *testing.T, x *rewind.Trip, p []api.Pick, answers []uint32) []api.Event {
	t.Helper()
	l, code := x.Go(p, answers)
	if code != api.OK {
		t.Fatalf("P25.1: Go of %d picks: %d", len(p), code)
	}
	return l
}

func backs(t *testing.T, x *rewind.Trip, n int) {
	t.Helper()
	if code := x.Back(n); code != api.OK {
		t.Fatalf("P25.1: Back(%d) = %d", n, code)
	}
}

// forth: runs that must be done again, and tell just these events (their serials are none of a guest's).
func forth(t *testing.T, x *rewind.Trip, n int, want ...api.Event) {
	t.Helper()
	l, code := x.Forth(n)
	if code != api.OK || !slices.Equal(withoutSerials(l), withoutSerials(want)) {
		t.Fatalf("P25.2: Forth(%d) = %+v, %d, want %+v", n, l, code, want)
	}
}

// finds: what a Find must tell, and that it changes nothing.
func (m machine) finds(t *testing.T, x *rewind.Trip, w api.Watch, want int) {
	t.Helper()
	before, at := m.shape(), postOf(x)
	n, code := x.Find(w)
	if n != want || code != api.OK {
		t.Errorf("P25.4: Find(%+v) = %d, %d, want %d", w, n, code, want)
	}
	m.keeps(t, fmt.Sprintf("P25.5: Find(%+v)", w), x, before, at)
}

// keeps: machine and trip are as they were; the serials are the call's own business.
func (m machine) keeps(t *testing.T, what string, x *rewind.Trip, before shape, at post) {
	t.Helper()
	m.unchanged(t, what, before, m.k.Serial()-before.state.Serial)
	if now := postOf(x); now != at {
		t.Fatalf("%s: the trip is at %v, not %v", what, now, at)
	}
}

// stands holds where a trip stands against what it must tell.
func stands(t *testing.T, x *rewind.Trip, behind, all, slot int) {
	t.Helper()
	if p := postOf(x); p.behind != behind || p.all != all || p.slot != slot {
		t.Errorf("P25.1: At %d, %d, Slot %d, want %d, %d, %d", p.behind, p.all, p.slot, behind, all, slot)
	}
}

// capAt: the capability at a place, with what it was derived from.
func capAt(k *gate.Kernel, env, slot int) (api.CapState, bool) {
	l := k.State().Caps
	i := slices.IndexFunc(l, func(c api.CapState) bool { return c.Held.Env == env && c.Held.Slot == slot })
	if i < 0 {
		return api.CapState{}, false
	}
	return l[i], true
}

// rootAt: the number of the environment that a slot names.
func rootAt(t *testing.T, k *gate.Kernel, env, slot int) int {
	t.Helper()
	c, there := capAt(k, env, slot)
	if !there || c.Held.Cap.Kind != api.KindEnv {
		t.Fatalf("no environment in slot %d of %d", slot, env)
	}
	return c.Held.Cap.Obj
}

// forest: a tree as Read tells it. A frame whose last owner dropped it is an out from then on, in each tree another: its serial is left out.
func forest(t *testing.T, k *gate.Kernel, env, slot int) api.Forest {
	t.Helper()
	f, _, code := walk.Read(k, env, slot)
	if code != api.OK {
		t.Fatalf("Read(%d, %d): %d", env, slot, code)
	}
	for i := range f.Outs {
		f.Outs[i].Serial = 0
	}
	return f
}

// same: a nil list and an empty one are the same.
func same(a, b api.Forest) bool {
	return slices.Equal(a.Envs, b.Envs) && slices.Equal(a.Caps, b.Caps) && slices.Equal(a.Maps, b.Maps) && slices.Equal(a.Pages, b.Pages) && slices.Equal(a.Outs, b.Outs)
}

// picks: places and steps, by turns.
func picks(n ...int) []api.Pick {
	var l []api.Pick
	for i := 0; i < len(n); i += 2 {
		l = append(l, api.Pick{K: n[i], Steps: n[i+1]})
	}
	return l
}

// emits, asks, end, none: events.
func emits(step, n int) api.Event {
	return api.Event{Kind: api.EvSys, Steps: step, Call: api.CallEmit, A: [5]uint32{uint32(n), 0, 0, uint32(n)}}
}

func end(n int) api.Event { return api.Event{Kind: api.EvEnd, Steps: n} }

func none() api.Event { return api.Event{Kind: api.EvNone} }

func withoutSerials(events []api.Event) []api.Event {
	l := slices.Clone(events)
	for i := range l {
		l[i].Serial = 0
	}
	return l
}

// dice: numbers by a fixed rule, so that each run of the tests is the same.
type dice uint64

func (d *dice) below(n int) int {
	*d = *d*6364136223846793005 + 1442695040888963407
	return int(uint64(*d)>>33) % n
}

func (d *dice) of(l ...int) int { return l[d.below(len(l))] }

// one tells something that happens once in n times.
func (d *dice) one(n int) bool { return d.below(n) == 0 }
