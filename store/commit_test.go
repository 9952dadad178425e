package store_test

import (
	"bytes"
	"fmt"
	"reflect"
	"testing"

	"amber/api"
	"amber/store"
)

// TestSizes: how many extents, sectors and acts an image takes, and that each byte lies where it should.
func TestSizes(t *testing.T) {
	for _, n := range []int{1, 2, 127, 128, 129, 255, 256, 257, 4095, 4096, 4097, 8191, 8192, 8193, 28672, 28673, 32767, 32768} {
		m := over(t, all(131072, 0xee), 1)
		s := opened(t, "P16.1", m.k, 0, 2)
		is(t, fmt.Sprint("P16.1: Commit of ", n), s.Commit(picture(n, 3), true), api.OK)
		extents, sectors := (n+4095)/4096, (n+127)/128
		if m.d.Acts() != sectors+3 || len(m.d.Pending()) > 0 || m.k.Serial() != 3+extents {
			t.Errorf("P16.1: %d bytes: %d acts, %v waits, serial %d", n, m.d.Acts(), m.d.Pending(), m.k.Serial())
		}
		want := all(131072, 0xee)
		on := []int{0, 1, 3, 4, 5, 6, 7, 8}[:extents]
		body := append(picture(n, 3), make([]byte, sectors*128-n)...)
		for i, x := range on {
			copy(want[x*4096:], body[i*4096:min(len(body), i*4096+4096)])
		}
		copy(want[2*4096+128:], super(1, entry{n, on}))
		if !bytes.Equal(m.d.Medium(), want) {
			t.Errorf("P16.1: %d bytes: the medium is another", n)
		}
		tells(t, fmt.Sprint("P16.1: ", n, " bytes"), s, 1, fmt.Sprint([][]int{on}), picture(n, 3))
	}
}

func TestWrongSizes(t *testing.T) {
	m := newMachine()
	s := opened(t, "P16.1", m.k, 0, 2)
	before := m.shape()
	for _, b := range [][]byte{nil, {}, make([]byte, 32769), make([]byte, 65536), make([]byte, 1<<22)} {
		is(t, fmt.Sprint("P16.1: Commit of ", len(b)), s.Commit(b, true), api.ErrSize)
		is(t, fmt.Sprint("P16.1: Commit of ", len(b)), s.Commit(b, false), api.ErrSize)
	}
	m.unchanged(t, "P16.5: wrong sizes", before, 0)
}

// faults: what can be wrong with a Commit, in the order in which it is told.
var faults = []api.Errno{api.ErrArg, api.ErrEnv, api.ErrSize, api.ErrState, api.ErrNoSpace, api.ErrNoCap, api.ErrDown}

// TestCommitOrder: all sets of faults that can be together; the first of them is told.
func TestCommitOrder(t *testing.T) {
	for set := range 1 << len(faults) {
		has := func(code api.Errno) bool {
			for i, f := range faults {
				if f == code {
					return set>>i&1 == 1
				}
			}
			return false
		}
		if has(api.ErrState) && has(api.ErrNoSpace) {
			continue // a chain is not both empty and full
		}
		m := newMachine()
		slot := do(t, m.k, 0, api.CallSpawn, 0, 0, 20)
		s := opened(t, "P16.1", m.k, 1, 0)
		images := 1
		if has(api.ErrState) {
			images = 0
		}
		if has(api.ErrNoSpace) {
			images = 5
		}
		for i := range images {
			is(t, "P16.1: Commit", s.Commit(picture(200, i), i == 0), api.OK)
		}
		if has(api.ErrNoCap) {
			do(t, m.k, 1, api.CallDrop, images)
		}
		if has(api.ErrDown) {
			m.d.Arm(0)
			m.d.Flush()
		}
		if has(api.ErrEnv) {
			do(t, m.k, 0, api.CallKill, slot)
		}
		if has(api.ErrArg) {
			s.Close()
		}
		b := []byte{1}
		if has(api.ErrSize) {
			b = nil
		}
		want := api.OK
		for i := range faults {
			if want == api.OK && set>>i&1 == 1 {
				want = faults[i]
			}
		}
		before := m.k.State()
		is(t, fmt.Sprintf("P16.1: Commit with the faults %07b", set), s.Commit(b, false), want)
		if want != api.OK {
			serials := 0
			if want == api.ErrDown {
				serials = 1
			}
			claimsKept(t, fmt.Sprintf("P16.5: the faults %07b", set), m.k, before, serials)
		}
	}
}

// TestChainOrder: likewise of Chain.
func TestChainOrder(t *testing.T) {
	for set := range 16 {
		m := newMachine()
		slot := do(t, m.k, 0, api.CallSpawn, 0, 0, 20)
		s := opened(t, "P16.1", m.k, 1, 0)
		is(t, "P16.1: Commit", s.Commit(picture(200, 1), true), api.OK)
		if set&4 != 0 {
			do(t, m.k, 1, api.CallDrop, 1)
		}
		if set&8 != 0 {
			m.d.Arm(0)
			m.d.Flush()
		}
		if set&2 != 0 {
			do(t, m.k, 0, api.CallKill, slot)
		}
		if set&1 != 0 {
			s.Close()
		}
		want := api.OK
		for i, code := range []api.Errno{api.ErrArg, api.ErrEnv, api.ErrNoCap, api.ErrDown} {
			if want == api.OK && set>>i&1 == 1 {
				want = code
			}
		}
		before := m.shape()
		reads(t, fmt.Sprintf("P16.1: the faults %04b", set), s, want)
		m.unchanged(t, fmt.Sprintf("P16.5: the faults %04b", set), before, 0)
	}
}

// TestLastGeneration: behind api.MaxGen nothing is committed, and up to it all is.
func TestLastGeneration(t *testing.T) {
	for _, gen := range []int{api.MaxGen - 1, api.MaxGen} {
		m := newMachine()
		m.d.Edit(gen%2, 0, super(gen, entry{5, []int{9}}))
		s := opened(t, "P16.1", m.k, 0, 0)
		for n := gen; n < api.MaxGen; n++ {
			is(t, "P16.1: the last Commit", s.Commit([]byte{1}, true), api.OK)
		}
		if s.Gen() != api.MaxGen {
			t.Errorf("P16.1: Gen %d", s.Gen())
		}
		before := m.shape()
		is(t, "P16.1: behind the last", s.Commit([]byte{1}, true), api.ErrNoSpace)
		is(t, "P16.1: behind the last", s.Commit([]byte{1}, false), api.ErrNoSpace)
		is(t, "P16.1: behind the last, of no bytes", s.Commit(nil, false), api.ErrSize)
		do(t, m.k, 0, api.CallDrop, 0)
		is(t, "P16.1: behind the last, home dropped", s.Commit([]byte{1}, true), api.ErrNoSpace)
		before.state = m.k.State()
		m.unchanged(t, "P16.5: behind the last", before, 0)
		tells(t, "P16.4: the last", opened(t, "P16.4", over(t, m.d.Medium(), 7).k, 0, 0), api.MaxGen, fmt.Sprint(s.Extents()), all(5-4*(api.MaxGen-gen), byte(api.MaxGen-gen)))
	}
}

// committer: an environment with so much of a quota of extents, and so many slots, that it has room for `room` more behind the store's own.
func committer(t *testing.T, m machine, home, images, room int, bySlots bool) *store.Store {
	t.Helper()
	extents := 1 + images + room
	if bySlots {
		extents = 31
	}
	do(t, m.k, 0, api.CallSpawn, 60, 0, extents)
	s := opened(t, "P16.5", m.k, 1, home)
	for i := range images {
		is(t, "P16.5: Commit", s.Commit(picture(130, i), i == 0), api.OK)
	}
	for bySlots && m.k.Call(1, request(api.NatLeft)).V[3] > room {
		do(t, m.k, 1, api.CallAlloc)
	}
	return s
}

// TestTooLittleRoom: a Commit of n extents where there is room for fewer: they are claimed and given back; with room for all it is done.
func TestTooLittleRoom(t *testing.T) {
	for _, bySlots := range []bool{false, true} {
		for need := 1; need <= 8; need++ {
			for room := 0; room <= need; room++ {
				for _, full := range []bool{false, true} {
					m := newMachine()
					s := committer(t, m, 5, 2, room, bySlots)
					what := fmt.Sprintf("P16.5: %d extents, room for %d, by slots %v", need, room, bySlots)
					before, told := m.shape(), s.Extents()
					image := picture(need*4096, 9)
					if room == need {
						is(t, what, s.Commit(image, full), api.OK)
						continue
					}
					is(t, what, s.Commit(image, full), api.ErrNoSpace)
					m.unchanged(t, what, before, room)
					if s.Gen() != 2 || !reflect.DeepEqual(s.Extents(), told) {
						t.Errorf("%s: Gen %d, Extents %v", what, s.Gen(), s.Extents())
					}
					tells(t, what, s, 2, "[[0] [1]]", picture(130, 0), picture(130, 1))
				}
			}
		}
	}
}

// TestOldExtentsComeLast: a full image can't have the room of the chain that it follows.
func TestOldExtentsComeLast(t *testing.T) {
	m := newMachine()
	s := opened(t, "P16.1", m.k, 0, 31)
	for i := range 3 {
		is(t, "P16.1: Commit", s.Commit(picture(32768, i), i == 0), api.OK)
	}
	before := m.shape()
	is(t, "P16.1: eight extents, seven free", s.Commit(picture(32768, 4), true), api.ErrNoSpace)
	m.unchanged(t, "P16.5", before, 7)
	is(t, "P16.1: seven extents", s.Commit(picture(7*4096, 5), true), api.OK)
	tells(t, "P16.1", s, 4, "[[24 25 26 27 28 29 30]]", picture(7*4096, 5))
	lists(t, "P16.1", m.k, 0, "[0:31 25:24 26:25 27:26 28:27 29:28 30:29 31:30]")
}

// TestOpenWithTooLittleRoom: at each of the claims of an Open, by the quota, by the slots, by another's claim.
func TestOpenWithTooLittleRoom(t *testing.T) {
	first := newMachine()
	s := opened(t, "P16.5", first.k, 0, 3)
	is(t, "P16.5: Commit", s.Commit(picture(3*4096, 1), true), api.OK)
	is(t, "P16.5: Commit", s.Commit(picture(2*4096, 2), false), api.OK)
	order := []int{3, 0, 1, 2, 4, 5}
	for room := range len(order) + 1 {
		for _, how := range []string{"quota", "slots", "claimed"} {
			m := over(t, first.d.Medium(), 100)
			extents, want := 31, api.ErrNoSpace
			if how == "quota" {
				extents = room
			}
			do(t, m.k, 0, api.CallSpawn, 60, 0, extents)
			for how == "slots" && m.k.Call(1, request(api.NatLeft)).V[3] > room {
				do(t, m.k, 1, api.CallAlloc)
			}
			if how == "claimed" && room < len(order) {
				do(t, m.k, 0, api.NatClaim, order[room])
				want = api.ErrClaimed
			}
			what := fmt.Sprintf("P16.5: Open, %s, %d", how, room)
			before := m.shape()
			if room < len(order) {
				refused(t, what, m.k, 1, 3, want)
				m.unchanged(t, what, before, room)
				continue
			}
			tells(t, what, opened(t, what, m.k, 1, 3), 2, "[[0 1 2] [4 5]]", picture(3*4096, 1), picture(2*4096, 2))
		}
	}
}

// TestOpenClaimsInOrder: the slots are those that are free, the serials rise as the superblock names the extents.
func TestOpenClaimsInOrder(t *testing.T) {
	m := newMachine()
	m.d.Edit(7*32, 0, super(4, entry{4097, []int{30, 2}}, entry{1, []int{11}}))
	for range 4 {
		do(t, m.k, 0, api.CallAlloc)
	}
	do(t, m.k, 0, api.CallDrop, 1)
	s := opened(t, "P16.1", m.k, 0, 7)
	if s.Gen() != 4 || fmt.Sprint(s.Extents()) != "[[30 2] [11]]" {
		t.Errorf("P16.1: Gen %d, Extents %v", s.Gen(), s.Extents())
	}
	lists(t, "P16.1", m.k, 0, "[1:7 4:30 5:2 6:11]")
	want := []api.ExtState{{Num: 2, Serial: 8, Holds: 1}, {Num: 7, Serial: 6, Holds: 1}, {Num: 11, Serial: 9, Holds: 1}, {Num: 30, Serial: 7, Holds: 1}}
	if got := m.k.State().Extents; !reflect.DeepEqual(got, want) {
		t.Errorf("P16.1: claimed are %v, want %v", got, want)
	}
	for _, c := range m.k.State().Caps {
		if c.Held.Cap.Kind == api.KindExtent && (c.Held.Cap.Rights != 15 || c.From.Env != -1) {
			t.Errorf("P16.1: %+v", c)
		}
	}
}

// TestEveryAct: a Commit that goes down at each act; the store is as it was, and so is the environment; the bytes that were written stay in the cache or on the medium.
func TestEveryAct(t *testing.T) {
	for _, full := range []bool{false, true} {
		for _, n := range []int{1, 300, 4200} {
			acts := (n+127)/128 + 3
			for at := range acts + 1 {
				m := newMachine()
				s := committer(t, m, 6, 2, 8, false)
				before := m.k.State()
				done := m.d.Acts()
				m.d.Arm(at)
				what := fmt.Sprintf("P16.1: Commit of %d, full %v, armed with %d", n, full, at)
				if at == acts {
					is(t, what, s.Commit(picture(n, 9), full), api.OK)
					continue
				}
				is(t, what, s.Commit(picture(n, 9), full), api.ErrDown)
				claimsKept(t, what, m.k, before, (n+4095)/4096)
				if m.d.Acts() != done+at || s.Gen() != 2 || fmt.Sprint(s.Extents()) != "[[0] [1]]" {
					t.Errorf("%s: %d acts, Gen %d, Extents %v", what, m.d.Acts()-done, s.Gen(), s.Extents())
				}
				waits := min(at, acts-3)
				switch at {
				case acts - 2:
					waits = 0
				case acts - 1:
					waits = 1
				}
				if len(m.d.Pending()) != waits {
					t.Errorf("%s: %v waits", what, m.d.Pending())
				}
				reads(t, what, s, api.ErrDown)
			}
		}
	}
}
