package store_test

import (
	"bytes"
	"fmt"
	"reflect"
	"slices"
	"testing"

	"amber/api"
	"amber/crc"
	"amber/disk"
	"amber/gate"
	"amber/store"
)

// What the tests share: machines, what is told of them, images, superblocks by hand.

// machine: a disk and a kernel over it.
type machine struct {
	d *disk.Disk
	k *gate.Kernel
}

func newMachine() machine {
	d := disk.New()
	return machine{d, gate.Boot(d, 1)}
}

// over: a machine of its own that has a copy of the medium.
func over(t *testing.T, medium []byte, serial int) machine {
	t.Helper()
	d, code := disk.Of(medium)
	if code != api.OK {
		t.Fatalf("no disk of %d bytes", len(medium))
	}
	return machine{d, gate.Boot(d, serial)}
}

// rebooted: the same disk, behind a crash.
func (m machine) rebooted(keep []bool) machine {
	m.d.Crash(keep)
	return machine{m.d, gate.Boot(m.d, m.k.Serial())}
}

func request(call int, a ...int) api.Request {
	r := api.Request{Call: call}
	copy(r.A[:], a)
	return r
}

// do makes a call that must be done; its V0.
func do(t *testing.T, k *gate.Kernel, env, call int, a ...int) int {
	t.Helper()
	got := k.Call(env, request(call, a...))
	if got.Code != api.OK {
		t.Fatalf("%d: %s %v: %d", env, gate.Name(call), a, got.Code)
	}
	return got.V[0]
}

func is(t *testing.T, what string, got, want api.Errno) {
	t.Helper()
	if got != want {
		t.Errorf("%s = %d, want %d", what, got, want)
	}
}

func opened(t *testing.T, what string, k *gate.Kernel, env, home int) *store.Store {
	t.Helper()
	s, code := store.Open(k, env, home)
	if s == nil || code != api.OK {
		t.Fatalf("%s: Open(k, %d, %d) = %v, %d", what, env, home, s, code)
	}
	return s
}

func refused(t *testing.T, what string, k *gate.Kernel, env, home int, want api.Errno) {
	t.Helper()
	if s, code := store.Open(k, env, home); s != nil || code != want {
		t.Errorf("%s: Open(k, %d, %d) = %v, %d, want nil, %d", what, env, home, s, code, want)
	}
}

// reads asks Chain.
func reads(t *testing.T, what string, s *store.Store, want api.Errno) {
	t.Helper()
	if l, code := s.Chain(); code != want || code != api.OK && l != nil {
		t.Errorf("%s: Chain = %d images, %d, want %d", what, len(l), code, want)
	}
}

func alike(a, b [][]byte) bool { return slices.EqualFunc(a, b, bytes.Equal) }

// tells holds all that a store tells against what it should.
func tells(t *testing.T, what string, s *store.Store, gen int, extents string, chain ...[]byte) {
	t.Helper()
	l, code := s.Chain()
	if code != api.OK || !alike(l, chain) {
		t.Errorf("%s: Chain: %d images %.200x, %d, want %d", what, len(l), l, code, len(chain))
	}
	if s.Gen() != gen || fmt.Sprint(s.Extents()) != extents {
		t.Errorf("%s: Gen %d, Extents %v, want %d, %s", what, s.Gen(), s.Extents(), gen, extents)
	}
}

// listed: an environment's extent capabilities: slot:extent.
func listed(k *gate.Kernel, env int) string {
	var l []string
	for _, c := range k.State().Caps {
		if c.Held.Env == env && c.Held.Cap.Kind == api.KindExtent {
			l = append(l, fmt.Sprintf("%d:%d", c.Held.Slot, c.Held.Cap.Obj))
		}
	}
	return fmt.Sprint(l)
}

func lists(t *testing.T, what string, k *gate.Kernel, env int, want string) {
	t.Helper()
	if got := listed(k, env); got != want {
		t.Errorf("%s: the list of %d is %s, want %s", what, env, got, want)
	}
}

// shape: all that can be seen of a machine.
type shape struct {
	state   api.State
	medium  []byte
	pending []int
	cached  [][]byte
	acts    int
	down    bool
}

func (m machine) shape() shape {
	s := shape{state: m.k.State(), medium: m.d.Medium(), pending: m.d.Pending(), acts: m.d.Acts(), down: m.d.Down()}
	for _, sector := range s.pending {
		b, _ := m.d.Read(sector)
		s.cached = append(s.cached, b)
	}
	return s
}

// differs: in what two shapes differ; "" if they don't.
func (s shape) differs(o shape) string {
	switch {
	case !reflect.DeepEqual(s.state, o.state):
		return fmt.Sprintf("the state is %+v, not %+v", s.state, o.state)
	case !bytes.Equal(s.medium, o.medium):
		return "the medium is another"
	case !slices.Equal(s.pending, o.pending) || !alike(s.cached, o.cached):
		return fmt.Sprintf("the cache is %v, not %v", s.pending, o.pending)
	case s.acts != o.acts || s.down != o.down:
		return fmt.Sprintf("%d acts, down %v, not %d, %v", s.acts, s.down, o.acts, o.down)
	}
	return ""
}

// unchanged: all is what it was, but that so many serials were taken.
func (m machine) unchanged(t *testing.T, what string, before shape, serials int) {
	t.Helper()
	before.state.Serial += serials
	if d := m.shape().differs(before); d != "" {
		t.Errorf("%s: %s", what, d)
	}
}

// claimsKept: of a state nothing but the serials has changed.
func claimsKept(t *testing.T, what string, k *gate.Kernel, before api.State, serials int) {
	t.Helper()
	before.Serial += serials
	if now := k.State(); !reflect.DeepEqual(now, before) {
		t.Errorf("%s: the state is %+v, want %+v", what, now, before)
	}
}

// picture: an image no two sectors of which are alike.
func picture(n, seed int) []byte {
	b := make([]byte, n)
	for i := range b {
		b[i] = byte(i*7 + i/128*13 + seed*29 + 1)
	}
	return b
}

func all(n int, b byte) []byte { return bytes.Repeat([]byte{b}, n) }

// summed: the sector with its right sum.
func summed(b []byte) []byte {
	b = slices.Clone(b)
	sum := crc.Sum(b[:124])
	for i := range 4 {
		b[124+i] = byte(sum >> (8 * i))
	}
	return b
}

// entry: an image as a superblock tells of it.
type entry struct {
	length  int
	extents []int
}

// super: a superblock by hand, whatever numbers there are.
func super(gen int, images ...entry) []byte {
	b := make([]byte, 128)
	copy(b, "\x41\x4d\x42\x53")
	word := func(at, v int) {
		for i := range 4 {
			b[at+i] = byte(v >> (8 * i))
		}
	}
	word(4, gen)
	b[8] = byte(len(images))
	for i, im := range images {
		word(9+12*i, im.length)
		copy(b[13+12*i:], "\xff\xff\xff\xff\xff\xff\xff\xff")
		for j, n := range im.extents {
			b[13+12*i+j] = byte(n)
		}
	}
	return summed(b)
}

// dice: numbers by a fixed rule, so that each run of the test is the same.
type dice uint64

func (d *dice) below(n int) int {
	*d = *d*6364136223846793005 + 1442695040888963407
	return int(uint64(*d)>>33) % n
}

func (d *dice) of(l ...int) int { return l[d.below(len(l))] }

func (d *dice) flips(n int) []bool {
	l := make([]bool, n)
	for i := range l {
		l[i] = d.below(2) == 0
	}
	return l
}
