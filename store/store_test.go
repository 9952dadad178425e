package store_test

import (
	"bytes"
	"math"
	"slices"
	"testing"

	"amber/api"
	"amber/disk"
	"amber/gate"
	"amber/store"
)

// farNumbers: neither an extent nor an environment.
var farNumbers = []int{math.MinInt, math.MinInt + 1, -1 << 32, -2, -1, 32, 33, 1 << 32, 1<<32 + 1, math.MaxInt}

func TestExampleOpen(t *testing.T) {
	m := newMachine()
	refused(t, "P16.1", m.k, 0, 32, api.ErrExtent)
	refused(t, "P16.1", m.k, 1, 0, api.ErrEnv)
	refused(t, "P16.1", nil, 0, 0, api.ErrArg)
	s := opened(t, "P16.1", m.k, 0, 0)
	lists(t, "P16.1", m.k, 0, "[0:0]")
	tells(t, "P16.1", s, 0, "[]")
	refused(t, "P16.1", m.k, 0, 0, api.ErrClaimed)
	is(t, "P16.1: Commit of no bytes", s.Commit(nil, true), api.ErrSize)
	is(t, "P16.1: Commit behind nothing", s.Commit([]byte{1}, false), api.ErrState)
}

func TestExampleCommits(t *testing.T) {
	m := newMachine()
	s := opened(t, "P16.1", m.k, 0, 0)
	is(t, "P16.1: Commit", s.Commit(all(5000, 7), true), api.OK)
	lists(t, "P16.1", m.k, 0, "[0:0 1:1 2:2]")
	if m.d.Acts() != 43 || len(m.d.Pending()) > 0 {
		t.Errorf("P16.1: %d acts, %v waits", m.d.Acts(), m.d.Pending())
	}
	for sector := range 1024 {
		want := make([]byte, 128)
		switch {
		case sector == 1:
			want = summed(append([]byte("\x41\x4d\x42\x53\x01\x00\x00\x00\x01\x88\x13\x00\x00\x01\x02\xff\xff\xff\xff\xff\xff"), make([]byte, 107)...))
		case sector >= 32 && sector <= 70:
			want = all(128, 7)
		case sector == 71:
			copy(want, all(8, 7))
		}
		if b, _ := m.d.Raw(sector); !bytes.Equal(b, want) {
			t.Errorf("P16.1: sector %d is % x, want % x", sector, b, want)
		}
	}
	tells(t, "P16.1", s, 1, "[[1 2]]", all(5000, 7))
	is(t, "P16.1: Commit", s.Commit([]byte{9}, false), api.OK)
	tells(t, "P16.1", s, 2, "[[1 2] [3]]", all(5000, 7), []byte{9})
	if b, _ := m.d.Raw(0); !bytes.Equal(b, super(2, entry{5000, []int{1, 2}}, entry{1, []int{3}})) {
		t.Errorf("P16.1: sector 0 is % x", b)
	}
	for range 3 {
		is(t, "P16.1: Commit", s.Commit([]byte{8}, false), api.OK)
	}
	before := m.shape()
	is(t, "P16.1: the sixth image", s.Commit([]byte{8}, false), api.ErrNoSpace)
	m.unchanged(t, "P16.5: the sixth image", before, 0)
	is(t, "P16.1: a new chain", s.Commit([]byte{6}, true), api.OK)
	tells(t, "P16.1", s, 6, "[[7]]", []byte{6})
	lists(t, "P16.1", m.k, 0, "[0:0 7:7]")
}

func TestExampleCrashes(t *testing.T) {
	for _, c := range []struct {
		at   int
		keep []bool
		gen  int
	}{{41, nil, 0}, {42, []bool{true}, 1}, {42, nil, 0}} {
		m := newMachine()
		s := opened(t, "P16.2", m.k, 0, 0)
		before := m.k.State()
		m.d.Arm(c.at)
		is(t, "P16.2: Commit", s.Commit(all(5000, 7), true), api.ErrDown)
		if s.Gen() != 0 || len(s.Extents()) != 0 {
			t.Errorf("P16.1: Gen %d, Extents %v", s.Gen(), s.Extents())
		}
		claimsKept(t, "P16.5: Commit", m.k, before, 2)
		m = m.rebooted(c.keep)
		s = opened(t, "P16.2", m.k, 0, 0)
		if c.gen == 0 {
			tells(t, "P16.2", s, 0, "[]")
		} else {
			tells(t, "P16.2", s, 1, "[[1 2]]", all(5000, 7))
		}
	}
}

func TestExampleHomeDropped(t *testing.T) {
	m := newMachine()
	s := opened(t, "P16.1", m.k, 0, 0)
	do(t, m.k, 0, api.CallDrop, 0)
	before := m.shape()
	reads(t, "P16.1: home dropped", s, api.ErrNoCap)
	is(t, "P16.1: Commit", s.Commit([]byte{1}, true), api.ErrNoCap)
	is(t, "P16.1: Close", s.Close(), api.OK)
	m.unchanged(t, "P16.5", before, 0)
}

// TestOpenOrder: which error comes first.
func TestOpenOrder(t *testing.T) {
	m := newMachine()
	opened(t, "P16.1", m.k, 0, 5)
	down := newMachine()
	down.d.Arm(0)
	down.d.Flush()
	for _, n := range farNumbers {
		for _, x := range []machine{m, down} {
			before := x.shape()
			for _, env := range append([]int{1, 15, 16}, farNumbers...) {
				refused(t, "P16.1: of none", nil, env, n, api.ErrArg)
				refused(t, "P16.1: of none", x.k, env, n, api.ErrEnv)
				refused(t, "P16.1: of none", x.k, env, 5, api.ErrEnv)
			}
			refused(t, "P16.1: of none", nil, 0, n, api.ErrArg)
			refused(t, "P16.1: of none", x.k, 0, n, api.ErrExtent)
			x.unchanged(t, "P16.5: refused", before, 0)
		}
	}
	m.d.Arm(0)
	m.d.Flush()
	before := m.shape()
	refused(t, "P16.1: claimed, and down", m.k, 0, 5, api.ErrClaimed)
	m.unchanged(t, "P16.5: claimed", before, 0)
	refused(t, "P16.1: down", m.k, 0, 6, api.ErrDown)
	m.unchanged(t, "P16.5: down", before, 1)
	slot := do(t, m.k, 0, api.CallSpawn, 0, 0, 0)
	before = m.shape()
	refused(t, "P16.1: claimed, and no quota", m.k, 1, 5, api.ErrClaimed)
	refused(t, "P16.1: no quota, and down", m.k, 1, 6, api.ErrNoSpace)
	m.unchanged(t, "P16.5: no quota", before, 0)
	do(t, m.k, 0, api.CallKill, slot)
	refused(t, "P16.1: killed", m.k, 1, 6, api.ErrEnv)
}

// TestOpenEverywhere: each extent can be home, for each environment.
func TestOpenEverywhere(t *testing.T) {
	m := newMachine()
	do(t, m.k, 0, api.CallSpawn, 0, 0, 16)
	var stores []*store.Store
	for home := range 32 {
		s := opened(t, "P16.1", m.k, home%2, home)
		tells(t, "P16.1", s, 0, "[]")
		stores = append(stores, s)
	}
	for home, s := range stores {
		for env := range 3 {
			if s.Serves(m.k, env) != (env == home%2) {
				t.Errorf("P16.1: home %d: Serves(k, %d) = %v", home, env, s.Serves(m.k, env))
			}
		}
		is(t, "P16.1: Close", s.Close(), api.OK)
	}
	if m.d.Acts() != 0 || len(m.k.State().Extents) > 0 {
		t.Errorf("P16.3: %d acts, claimed are %v", m.d.Acts(), m.k.State().Extents)
	}
}

func TestClosed(t *testing.T) {
	m := newMachine()
	s := opened(t, "P16.1", m.k, 0, 3)
	is(t, "P16.1: Commit", s.Commit(picture(4097, 1), true), api.OK)
	is(t, "P16.1: Close", s.Close(), api.OK)
	lists(t, "P16.1: closed", m.k, 0, "[]")
	before := m.shape()
	if s.Gen() != 0 || len(s.Extents()) != 0 || s.Serves(m.k, 0) || s.Serves(nil, 0) {
		t.Errorf("P16.1: closed: Gen %d, Extents %v", s.Gen(), s.Extents())
	}
	reads(t, "P16.1: closed", s, api.ErrArg)
	for _, n := range []int{0, 1, 32768, 32769} {
		is(t, "P16.1: Commit, closed", s.Commit(make([]byte, n), true), api.ErrArg)
		is(t, "P16.1: Commit, closed", s.Commit(make([]byte, n), false), api.ErrArg)
	}
	is(t, "P16.1: Close, closed", s.Close(), api.ErrArg)
	m.unchanged(t, "P16.5: closed", before, 0)
	again := opened(t, "P16.3", m.k, 0, 3)
	tells(t, "P16.3", again, 1, "[[0 1]]", picture(4097, 1))
	is(t, "P16.1: Close of the old one", s.Close(), api.ErrArg)
	tells(t, "P16.1: another store was closed", again, 1, "[[0 1]]", picture(4097, 1))
}

// TestServes: this kernel, this number, this environment.
func TestServes(t *testing.T) {
	m := newMachine()
	slot := do(t, m.k, 0, api.CallSpawn, 0, 2, 5)
	s := opened(t, "P16.1", m.k, 1, 0)
	serves := func(what string, want bool) {
		t.Helper()
		if got := s.Serves(m.k, 1); got != want {
			t.Errorf("P16.1: %s: Serves = %v", what, got)
		}
		for _, env := range append([]int{0, 2, 15, 16}, farNumbers...) {
			if s.Serves(m.k, env) || s.Serves(nil, env) {
				t.Errorf("P16.1: %s: Serves(.., %d)", what, env)
			}
		}
		if s.Serves(nil, 1) || s.Serves(gate.Boot(m.d, 1), 1) || s.Serves(newMachine().k, 1) {
			t.Errorf("P16.1: %s: Serves another kernel", what)
		}
	}
	serves("opened", true)
	do(t, m.k, 1, api.CallSpawn, 0, 0, 0)
	serves("with a child", true)
	do(t, m.k, 0, api.CallKill, slot)
	serves("killed", true)
	slot = do(t, m.k, 0, api.CallSpawn, 0, 0, 5)
	serves("another one has the number", false)
	do(t, m.k, 0, api.CallKill, slot)
	serves("the other one was killed", true)
	is(t, "P16.1: Close", s.Close(), api.OK)
	serves("closed", false)
}

// TestItsEnvironmentEnds: what is left of a store whose environment is gone, or followed by another.
func TestItsEnvironmentEnds(t *testing.T) {
	m := newMachine()
	slot := do(t, m.k, 0, api.CallSpawn, 0, 0, 5)
	s := opened(t, "P16.1", m.k, 1, 0)
	is(t, "P16.1: Commit", s.Commit(picture(300, 1), true), api.OK)
	do(t, m.k, 0, api.CallKill, slot)
	gone := func(what string) {
		t.Helper()
		before := m.shape()
		reads(t, "P16.1: "+what, s, api.ErrEnv)
		for _, n := range []int{0, 1, 32769} {
			is(t, "P16.1: Commit, "+what, s.Commit(make([]byte, n), n == 1), api.ErrEnv)
		}
		if s.Gen() != 1 || len(s.Extents()) != 1 {
			t.Errorf("P16.1: %s: Gen %d, Extents %v", what, s.Gen(), s.Extents())
		}
		m.unchanged(t, "P16.5: "+what, before, 0)
	}
	gone("killed")
	do(t, m.k, 0, api.CallSpawn, 0, 0, 5)
	gone("another one has the number")
	other := opened(t, "P16.1", m.k, 1, 0)
	tells(t, "P16.4", other, 1, "[[1]]", picture(300, 1))
	gone("another one has the number, the extents and the slots")
	before := m.shape()
	is(t, "P16.1: Close", s.Close(), api.OK)
	m.unchanged(t, "P16.1: Close took a stranger's", before, 0)
	tells(t, "P16.1", other, 1, "[[1]]", picture(300, 1))
}

// TestAStrangersSlots: the number's new environment has, at the store's slots, capabilities on the very extents, which others kept alive.
func TestAStrangersSlots(t *testing.T) {
	m := newMachine()
	slot := do(t, m.k, 0, api.CallSpawn, 0, 0, 5)
	s := opened(t, "P16.1", m.k, 1, 7)
	is(t, "P16.1: Commit", s.Commit(picture(300, 1), true), api.OK)
	home := do(t, m.k, 0, api.NatCopy, -1, 1, 0, 0, -1, 15)
	first := do(t, m.k, 0, api.NatCopy, -1, 1, 1, 0, -1, 15)
	do(t, m.k, 0, api.CallKill, slot)
	slot = do(t, m.k, 0, api.CallSpawn, 0, 0, 5)
	do(t, m.k, 0, api.NatPlace, home, slot, 0, 0, 15)
	do(t, m.k, 0, api.NatPlace, first, slot, 0, 1, 15)
	before := m.shape()
	reads(t, "P16.1: a stranger's", s, api.ErrEnv)
	is(t, "P16.1: Commit", s.Commit([]byte{1}, true), api.ErrEnv)
	is(t, "P16.1: Close", s.Close(), api.OK)
	m.unchanged(t, "P16.1: a stranger's", before, 0)
}

// TestCloseDropsItsOwn: what else lies in its slots stays.
func TestCloseDropsItsOwn(t *testing.T) {
	m := newMachine()
	s := opened(t, "P16.1", m.k, 0, 0)
	is(t, "P16.1: Commit", s.Commit(picture(3*4096, 1), true), api.OK)
	is(t, "P16.1: Commit", s.Commit(picture(1, 2), false), api.OK)
	weak := do(t, m.k, 0, api.CallDerive, 1, 4)
	for slot := range 4 {
		do(t, m.k, 0, api.CallDrop, slot)
	}
	do(t, m.k, 0, api.CallAlloc)                 // slot 0: a frame
	do(t, m.k, 0, api.CallDerive, weak, 0)       // slot 1: the very extent, without a right
	do(t, m.k, 0, api.NatClaim, 2)               // slot 2: the very number, claimed anew
	do(t, m.k, 0, api.CallSpawn, 0, 0, 0)        // slot 3: an environment
	spare := do(t, m.k, 0, api.CallDerive, 4, 3) // beside slot 4, its own still
	lists(t, "P16.1: ahead of Close", m.k, 0, "[1:1 2:2 4:4 5:1 6:4]")
	reads(t, "P16.1", s, api.ErrNoCap)
	is(t, "P16.1: Close", s.Close(), api.OK)
	lists(t, "P16.1: behind Close", m.k, 0, "[2:2 5:1 6:4]")
	if m.k.SerialOf(0, 0) == 0 || m.k.SerialOf(0, 3) == 0 || weak != 5 || spare != 6 {
		t.Error("P16.1: Close dropped what is not the store's")
	}
}

// slotRights: what may lie at a store's slot, and whether it is still good.
var slotRights = []struct {
	rights int
	good   bool
}{{0, false}, {1, false}, {2, false}, {3, true}, {4, false}, {5, false}, {6, false}, {7, true}, {8, false}, {9, false}, {10, false}, {11, true}, {12, false}, {13, false}, {14, false}, {15, true}}

// TestStillGood: at each of the store's slots, with each sum of rights.
func TestStillGood(t *testing.T) {
	for slot := range 4 {
		for _, c := range slotRights {
			m := newMachine()
			s := opened(t, "P16.1", m.k, 0, 31)
			is(t, "P16.1: Commit", s.Commit(picture(4097, 1), true), api.OK)
			is(t, "P16.1: Commit", s.Commit(picture(5, 2), false), api.OK)
			other := do(t, m.k, 0, api.CallDerive, slot, 15)
			do(t, m.k, 0, api.CallDrop, slot)
			reads(t, "P16.1: an empty slot", s, api.ErrNoCap)
			if at := do(t, m.k, 0, api.CallDerive, other, c.rights); at != slot {
				t.Fatalf("slot %d, not %d", at, slot)
			}
			before := m.shape()
			if c.good {
				tells(t, "P16.1: derived", s, 2, "[[0 1] [2]]", picture(4097, 1), picture(5, 2))
				is(t, "P16.1: Commit, derived", s.Commit(picture(9, 3), slot%2 == 0), api.OK)
				continue
			}
			reads(t, "P16.1: too few rights", s, api.ErrNoCap)
			is(t, "P16.1: Commit, too few rights", s.Commit(picture(9, 3), true), api.ErrNoCap)
			is(t, "P16.1: Commit, too few rights", s.Commit(picture(9, 3), false), api.ErrNoCap)
			m.unchanged(t, "P16.5: too few rights", before, 0)
		}
	}
}

// TestAnotherThingInTheSlot: a frame, an environment, another extent, the same extent claimed anew.
func TestAnotherThingInTheSlot(t *testing.T) {
	for slot := range 3 {
		for _, r := range []api.Request{request(api.CallAlloc), request(api.CallSpawn), request(api.NatClaim, 20), request(api.NatClaim, []int{31, 0, 1}[slot])} {
			m := newMachine()
			s := opened(t, "P16.1", m.k, 0, 31)
			is(t, "P16.1: Commit", s.Commit(picture(4097, 1), true), api.OK)
			do(t, m.k, 0, api.CallDrop, slot)
			if got := m.k.Call(0, r); got.Code != api.OK || got.V[0] != slot {
				t.Fatalf("%s: %+v", gate.Name(r.Call), got)
			}
			before := m.shape()
			reads(t, "P16.1: "+gate.Name(r.Call), s, api.ErrNoCap)
			is(t, "P16.1: Commit, "+gate.Name(r.Call), s.Commit([]byte{1}, true), api.ErrNoCap)
			m.unchanged(t, "P16.5: "+gate.Name(r.Call), before, 0)
			is(t, "P16.1: Close", s.Close(), api.OK)
			if m.k.SerialOf(0, slot) == 0 || len(m.k.State().Caps) != 1 {
				t.Errorf("P16.1: Close behind %s: %+v", gate.Name(r.Call), m.k.State().Caps)
			}
		}
	}
}

// TestDown: what a disk that is down lets a store tell.
func TestDown(t *testing.T) {
	for _, images := range []int{0, 1, 3} {
		m := newMachine()
		s := opened(t, "P16.1", m.k, 0, 0)
		for i := range images {
			is(t, "P16.1: Commit", s.Commit(picture(200, i), i == 0), api.OK)
		}
		m.d.Arm(0)
		m.d.Flush()
		before := m.shape()
		want := api.ErrDown
		if images == 0 {
			want = api.OK
		}
		reads(t, "P16.1: down", s, want)
		m.unchanged(t, "P16.5: Chain, down", before, 0)
		is(t, "P16.1: Commit, down", s.Commit(picture(4097, 9), true), api.ErrDown)
		m.unchanged(t, "P16.5: Commit, down", before, 2)
		if s.Gen() != images || len(s.Extents()) != images || !s.Serves(m.k, 0) {
			t.Errorf("P16.1: down: Gen %d, Extents %v", s.Gen(), s.Extents())
		}
		is(t, "P16.1: Close, down", s.Close(), api.OK)
		lists(t, "P16.1: Close, down", m.k, 0, "[]")
	}
}

// TestReadAnew: Chain tells what lies on the disk, through its cache, each time.
func TestReadAnew(t *testing.T) {
	m := newMachine()
	s := opened(t, "P16.1", m.k, 0, 31)
	want := picture(4096+300, 1)
	is(t, "P16.1: Commit", s.Commit(want, true), api.OK)
	want[0], want[4096+299] = 200, 201
	m.d.Edit(0, 0, []byte{200})
	m.d.Edit(34, 43, []byte{201, 202, 203})
	tells(t, "P16.1: edited", s, 1, "[[0 1]]", want)
	got := m.k.Call(0, api.Request{Call: api.NatWrite, A: [6]int{2, 1}, Data: all(128, 77)})
	is(t, "P16.1: a write", got.Code, api.OK)
	copy(want[4096+128:], all(128, 77))
	tells(t, "P16.1: written to, not flushed", s, 1, "[[0 1]]", want)
	m.d.Edit(31*32, 0, all(128, 1))
	m.d.Edit(31*32+1, 0, all(128, 1))
	tells(t, "P16.1: the superblocks are gone", s, 1, "[[0 1]]", want)
	is(t, "P16.1: Commit", s.Commit([]byte{5}, false), api.OK)
	other := over(t, m.d.Medium(), 100)
	tells(t, "P16.4: behind a lost superblock", opened(t, "P16.4", other.k, 0, 31), 2, "[[0 1] [2]]", want, []byte{5})
}

// TestNothingIsShared: what is handed in or answered can be written to.
func TestNothingIsShared(t *testing.T) {
	m := newMachine()
	s := opened(t, "P16.1", m.k, 0, 0)
	a, b := picture(4097, 1), picture(200, 2)
	for i, im := range [][]byte{a, b} {
		im = append(make([]byte, 0, 40000), im...)
		given := slices.Clone(im)
		is(t, "P16.1: Commit", s.Commit(im, i == 0), api.OK)
		if !bytes.Equal(im, given) {
			t.Error("P16.1: Commit changed what it was given")
		}
		for j := range im[:cap(im)] {
			im[:cap(im)][j] = 99
		}
	}
	tells(t, "P16.1", s, 2, "[[1 2] [3]]", a, b)
	l, _ := s.Chain()
	e := s.Extents()
	for i := range l {
		x := l[i][:cap(l[i])]
		copy(x, all(len(x), 98))
		y := e[i][:cap(e[i])]
		for j := range y {
			y[j] = 30
		}
	}
	_, _ = append(l, nil), append(e, nil)
	for i := range l {
		if !bytes.Equal(l[i], all(len(l[i]), 98)) || slices.ContainsFunc(e[i], func(n int) bool { return n != 30 }) {
			t.Error("P16.1: two lists of one answer share memory")
		}
		l[i], e[i] = nil, nil
	}
	tells(t, "P16.1: behind writing into the answers", s, 2, "[[1 2] [3]]", a, b)
	is(t, "P16.1: Commit", s.Commit([]byte{1}, false), api.OK)
	tells(t, "P16.4", opened(t, "P16.4", over(t, m.d.Medium(), 9).k, 0, 0), 3, "[[1 2] [3] [4]]", a, b, []byte{1})
}

// TestApart: stores on one kernel, of one environment and of two, and on another kernel over another disk.
func TestApart(t *testing.T) {
	m, far := newMachine(), newMachine()
	do(t, m.k, 0, api.CallSpawn, 0, 0, 12)
	a, b, c := opened(t, "P16.1", m.k, 0, 0), opened(t, "P16.1", m.k, 0, 9), opened(t, "P16.1", m.k, 1, 3)
	x := opened(t, "P16.1", far.k, 0, 0)
	for i := range 4 {
		for j, s := range []*store.Store{a, b, c, x} {
			is(t, "P16.1: Commit", s.Commit(picture(2000*j+i+1, 10*i+j), i != 1 && i != 3), api.OK)
		}
	}
	told := func(j int) [][]byte { return [][]byte{picture(2000*j+3, 20+j), picture(2000*j+4, 30+j)} }
	tells(t, "P16.1", a, 4, "[[8] [4]]", told(0)...)
	tells(t, "P16.1", b, 4, "[[1] [5]]", told(1)...)
	tells(t, "P16.1", c, 4, "[[2] [6]]", told(2)...)
	tells(t, "P16.1", x, 4, "[[5 6] [1 2]]", told(3)...)
	is(t, "P16.1: Close", b.Close(), api.OK)
	tells(t, "P16.1: another was closed", a, 4, "[[8] [4]]", told(0)...)
	tells(t, "P16.1: another was closed", c, 4, "[[2] [6]]", told(2)...)
	lists(t, "P16.1: another was closed", m.k, 1, "[0:3 1:6 3:2]")
}

// TestACopyIsAnother: two machines with the same medium go on each by itself.
func TestACopyIsAnother(t *testing.T) {
	m := newMachine()
	s := opened(t, "P16.4", m.k, 0, 0)
	is(t, "P16.4: Commit", s.Commit([]byte{1}, true), api.OK)
	d, _ := disk.Of(m.d.Medium())
	u := opened(t, "P16.4", gate.Boot(d, 50), 0, 0)
	is(t, "P16.4: Commit", s.Commit([]byte{2}, true), api.OK)
	tells(t, "P16.4", u, 1, "[[1]]", []byte{1})
	is(t, "P16.4: Commit", u.Commit([]byte{3}, false), api.OK)
	tells(t, "P16.4", u, 2, "[[1] [2]]", []byte{1}, []byte{3})
	tells(t, "P16.4", s, 2, "[[2]]", []byte{2})
}
