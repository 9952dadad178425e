package ckpt_test

import (
	"bytes"
	"fmt"
	"reflect"
	"slices"
	"testing"

	"amber/api"
	"amber/chain"
	"amber/ckpt"
	"amber/crc"
	"amber/disk"
	"amber/gate"
	"amber/store"
	"amber/walk"
)

// What the tests share: machines with stores, what can be seen of them, folds.

// machine: a disk and a kernel over it.
type machine struct {
	d *disk.Disk
	k *gate.Kernel
}

func newMachine() machine {
	d := disk.New()
	return machine{d, gate.Boot(d, 1)}
}

// rebooted: the same disk, behind a crash.
func (m machine) rebooted(keep []bool) machine {
	m.d.Crash(keep)
	return machine{m.d, gate.Boot(m.d, m.k.Serial())}
}

// copied: a machine of its own over a copy of the medium.
func (m machine) copied(t *testing.T) machine {
	t.Helper()
	d, code := disk.Of(m.d.Medium())
	if code != api.OK {
		t.Fatalf("no copy of the disk: %d", code)
	}
	return machine{d, gate.Boot(d, m.k.Serial())}
}

// goDown takes the disk down; what waits in its cache is flushed ahead of it.
func (m machine) goDown() {
	m.d.Flush()
	m.d.Arm(0)
	m.d.Flush()
}

func request(call int, a ...int) api.Request {
	r := api.Request{Call: call}
	copy(r.A[:], a)
	return r
}

// do makes a call that must be done; its V0.
func do(t *testing.T, k *gate.Kernel, env, call int, a ...int) int {
	t.Helper()
	got := k.Call(env, request(call, a...))
	if got.Code != api.OK {
		t.Fatalf("%d: %s %v: %d", env, gate.Name(call), a, got.Code)
	}
	return got.V[0]
}

func stored(t *testing.T, k *gate.Kernel, env int, addr, v uint32) {
	t.Helper()
	if code := k.Store(env, addr, v); code != api.OK {
		t.Fatalf("Store(%d, %d, %d): %d", env, addr, v, code)
	}
}

func opened(t *testing.T, k *gate.Kernel, env, home int) *store.Store {
	t.Helper()
	s, code := store.Open(k, env, home)
	if s == nil || code != api.OK {
		t.Fatalf("Open(k, %d, %d): %d", env, home, code)
	}
	return s
}

// example: the machine of the chapter's examples. Environment 0: home in slot 0, a frame in slot 1, environment 1 in slot 2, which has a page that it may write.
func example(t *testing.T) (machine, *store.Store) {
	t.Helper()
	m := newMachine()
	s := opened(t, m.k, 0, 31)
	do(t, m.k, 0, api.CallAlloc)
	do(t, m.k, 0, api.CallSpawn, 10, 2, 4)
	do(t, m.k, 1, api.CallAlloc)
	do(t, m.k, 1, api.CallMap, 0, 0, 1)
	return m, s
}

// saves asks for a Checkpoint, and holds what it answers against what it should.
func saves(t *testing.T, what string, k *gate.Kernel, s *store.Store, env, slot int, full bool, want api.Saved) {
	t.Helper()
	if got, code := ckpt.Checkpoint(k, s, env, slot, full); got != want || code != api.OK {
		t.Fatalf("%s: Checkpoint(%d, %d, %v) = %+v, %d, want %+v", what, env, slot, full, got, code, want)
	}
}

func refused(t *testing.T, what string, k *gate.Kernel, s *store.Store, env, slot int, full bool, want api.Errno) {
	t.Helper()
	if got, code := ckpt.Checkpoint(k, s, env, slot, full); got != (api.Saved{}) || code != want {
		t.Errorf("%s: Checkpoint(%d, %d, %v) = %+v, %d, want %d", what, env, slot, full, got, code, want)
	}
}

// present: what the last image should fold to.
func present(t *testing.T, k *gate.Kernel, env, slot, gen int) api.Folded {
	t.Helper()
	f, keys, code := walk.Read(k, env, slot)
	if code != api.OK {
		t.Fatalf("Read(%d, %d): %d", env, slot, code)
	}
	return api.Folded{Forest: f, Keys: keys, Gen: gen}
}

// foldOf: what the store's chain says.
func foldOf(t *testing.T, what string, s *store.Store) api.Folded {
	t.Helper()
	raws, code := s.Chain()
	if code != api.OK {
		t.Fatalf("%s: Chain: %d", what, code)
	}
	fold, code := chain.Load(raws)
	if code != api.OK {
		t.Fatalf("%s: %d images: Load: %d", what, len(raws), code)
	}
	return fold
}

// folds: the store's chain has so many images, and says just this.
func folds(t *testing.T, what string, s *store.Store, images int, want api.Folded) {
	t.Helper()
	if got := foldOf(t, what, s); !reflect.DeepEqual(got, want) || s.Gen() != want.Gen || len(s.Extents()) != images {
		t.Fatalf("%s: %d images, Gen %d: %+v, want %d: %+v", what, len(s.Extents()), s.Gen(), got, images, want)
	}
}

// flag: of an environment.
func flag(k *gate.Kernel, env int) bool {
	e, _ := k.Env(env)
	return e.Frozen
}

// shape: all that can be seen of a machine.
type shape struct {
	state   api.State
	medium  []byte
	pending []int
	cached  [][]byte
	acts    int
	down    bool
}

func (m machine) shape() shape {
	s := shape{state: m.k.State(), medium: m.d.Medium(), pending: m.d.Pending(), acts: m.d.Acts(), down: m.d.Down()}
	for _, sector := range s.pending {
		b, _ := m.d.Read(sector)
		s.cached = append(s.cached, b)
	}
	return s
}

// differs: in what two shapes differ; "" if they don't.
func (s shape) differs(o shape) string {
	switch {
	case !reflect.DeepEqual(s.state, o.state):
		return fmt.Sprintf("the state is %+v, not %+v", s.state, o.state)
	case !bytes.Equal(s.medium, o.medium):
		return "the medium is another"
	case !slices.Equal(s.pending, o.pending) || !slices.EqualFunc(s.cached, o.cached, bytes.Equal):
		return fmt.Sprintf("the cache is %v, not %v", s.pending, o.pending)
	case s.acts != o.acts || s.down != o.down:
		return fmt.Sprintf("%d acts, down %v, not %d, %v", s.acts, s.down, o.acts, o.down)
	}
	return ""
}

func (m machine) unchanged(t *testing.T, what string, before shape) {
	t.Helper()
	if d := m.shape().differs(before); d != "" {
		t.Errorf("%s: %s", what, d)
	}
}

// storeTells: all that a store says of itself.
func storeTells(s *store.Store) string {
	raws, code := s.Chain()
	return fmt.Sprintf("Gen %d, Extents %v, %x, %d", s.Gen(), s.Extents(), raws, code)
}

// lastGeneration: a superblock for home's sector 1 that names generation gen and one image of 5 bytes on extent 9.
func lastGeneration(gen int) []byte {
	b := make([]byte, 124)
	copy(b, "AMBS")
	for i := range 4 {
		b[4+i] = byte(gen >> (8 * i))
	}
	copy(b[8:], "\x01\x05\x00\x00\x00\x09\xff\xff\xff\xff\xff\xff\xff")
	sum := crc.Sum(b)
	return append(b, byte(sum), byte(sum>>8), byte(sum>>16), byte(sum>>24))
}

// dice: numbers by a fixed rule, so that each run of the test is the same.
type dice uint64

func (d *dice) below(n int) int {
	*d = *d*6364136223846793005 + 1442695040888963407
	return int(uint64(*d)>>33) % n
}

func (d *dice) of(l ...int) int { return l[d.below(len(l))] }

func (d *dice) flips(n int) []bool {
	l := make([]bool, n)
	for i := range l {
		l[i] = d.below(2) == 0
	}
	return l
}
