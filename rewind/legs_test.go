package rewind_test

import (
	"bytes"
	"encoding/binary"
	"fmt"
	"hash/crc32"
	"math"
	"slices"
	"testing"

	"amber/api"
	"amber/chain"
	"amber/image"
	"amber/rewind"
)

// The legs of a trip: what is written down, what is forgotten, what is done again, and what a call changes beside it.

// sealed: a body with its sum behind it.
func sealed(body []byte) []byte {
	return binary.LittleEndian.AppendUint32(slices.Clone(body), crc32.ChecksumIEEE(body))
}

// legOf: the bytes of a leg, in the words of layer 21.
func legOf(p []api.Pick, answers []uint32, events ...api.Event) []byte {
	le := binary.LittleEndian
	var sum, body []byte
	for _, e := range events {
		for _, n := range []int{e.Kind, e.K, e.Steps, e.Call} {
			sum = le.AppendUint64(sum, uint64(n))
		}
		for _, a := range e.A {
			sum = le.AppendUint32(sum, a)
		}
		sum = le.AppendUint64(sum, uint64(e.Code))
		for _, v := range e.V {
			sum = le.AppendUint32(sum, v)
		}
	}
	head := []byte("AMBL")
	for _, n := range []int{len(p), len(answers), int(crc32.ChecksumIEEE(sum))} {
		head = le.AppendUint32(head, uint32(n))
	}
	for _, x := range p {
		body = le.AppendUint64(le.AppendUint64(body, uint64(x.K)), uint64(x.Steps))
	}
	for _, a := range answers {
		body = le.AppendUint32(body, a)
	}
	return slices.Concat(sealed(head), sealed(body))
}

func logs(t *testing.T, what string, x *rewind.Trip, legs ...[]byte) {
	t.Helper()
	if got, want := x.Log(), slices.Concat(legs...); !bytes.Equal(got, want) {
		t.Errorf("P25.7: %s: Log is % x, want % x", what, got, want)
	}
}

// TestLog: all legs, those ahead too; a new run behind a Back forgets just those.
func TestLog(t *testing.T) {
	m := house(t, counts)
	x := m.begun(t, 0, 1)
	logs(t, "the beginning", x)
	var legs [][]byte
	for i := range 5 {
		goes(t, x, picks(0, 4), nil, emits(3, i+1), end(4))
		legs = append(legs, legOf(picks(0, 4), nil, emits(3, i+1), end(4)))
		logs(t, "the way out", x, legs...)
	}
	for n := range 6 {
		backs(t, x, n)
		logs(t, "behind a Back", x, legs...)
		forth(t, x, n, eventsOf(6-n, 5)...)
		logs(t, "behind a Forth", x, legs...)
	}
	backs(t, x, 3)
	forth(t, x, 1, eventsOf(3, 3)...)
	goes(t, x, picks(0, 2, 7, 1), []uint32{9}, end(2), api.Event{K: 7})
	another := legOf(picks(0, 2, 7, 1), []uint32{9}, end(2), api.Event{K: 7})
	logs(t, "a new run", x, legs[0], legs[1], legs[2], another)
	stands(t, x, 4, 4, x.Slot())
	m.refusesForth(t, "P25.7: what was ahead is forgotten", x, 1, api.ErrArg, 0)
	backs(t, x, 4)
	forth(t, x, 4, append(eventsOf(1, 3), end(2), api.Event{K: 7})...)
	backs(t, x, 4)
	goes(t, x, nil, nil)
	logs(t, "a new run at the beginning", x, legOf(nil, nil))
}

// eventsOf: what the runs of the guest that counts tell, from one number to another.
func eventsOf(from, to int) []api.Event {
	var l []api.Event
	for n := from; n <= to; n++ {
		l = append(l, emits(3, n), end(4))
	}
	return l
}

// TestRefusedRunsForgetNothing: what lies ahead is still there.
func TestRefusedRunsForgetNothing(t *testing.T) {
	m := house(t, counts)
	x := m.begun(t, 0, 1)
	for i := range 3 {
		goes(t, x, picks(0, 4), nil, emits(3, i+1), end(4))
	}
	backs(t, x, 2)
	for _, c := range []struct {
		picks   []api.Pick
		answers []uint32
		code    api.Errno
	}{
		{picks(0, 4097), nil, api.ErrArg},
		{picks(0, 4096, 0, 1), nil, api.ErrArg},
		{picks(0, math.MaxInt), nil, api.ErrArg},
		{make([]api.Pick, 4096), nil, api.ErrNoSpace},
		{make([]api.Pick, 1<<16), nil, api.ErrNoSpace},
		{nil, make([]uint32, 1<<16), api.ErrNoSpace},
		{slices.Repeat(picks(0, 4097), 4095), nil, api.ErrNoSpace},
	} {
		m.refusesGo(t, "P25.7: refused", x, c.picks, c.answers, c.code)
	}
	forth(t, x, 2, eventsOf(2, 3)...)
}

// TestRoomInTheLog: a log has room for so much, and what is ahead doesn't count.
func TestRoomInTheLog(t *testing.T) {
	m := house(t, counts)
	x := m.begun(t, 0, 1)
	many := make([]api.Pick, 2000) // 32024 bytes
	ran(t, x, many, nil)
	ran(t, x, many, nil)
	if len(x.Log()) != 64048 {
		t.Fatalf("P25.7: Log has %d bytes", len(x.Log()))
	}
	m.refusesGo(t, "P25.1: 65537 bytes", x, nil, make([]uint32, 367), api.ErrNoSpace)
	m.refusesGo(t, "P25.1: 65552 bytes", x, make([]api.Pick, 92), nil, api.ErrNoSpace)
	backs(t, x, 1)
	m.refusesGo(t, "P25.1: one leg behind", x, make([]api.Pick, 2094), nil, api.ErrNoSpace)
	ran(t, x, make([]api.Pick, 2093), nil) // 33512 bytes
	stands(t, x, 2, 2, x.Slot())
	m.refusesGo(t, "P25.1: a full log", x, nil, nil, api.ErrNoSpace)
	backs(t, x, 1)
	ran(t, x, make([]api.Pick, 2090), make([]uint32, 4))
	ran(t, x, nil, nil)
	backs(t, x, 3)
	forth(t, x, 3, slices.Repeat([]api.Event{none()}, 4090)...)
}

// TestNothingIsShared: what is handed in is not kept, what is told is new.
func TestNothingIsShared(t *testing.T) {
	m := house(t, "li r1, 0\nsys 24\nsys 14\njmp -4")
	x := m.begun(t, 0, 1)
	p, answers := picks(0, 4, 0, 0), []uint32{7, 8}
	events := ran(t, x, p, answers)
	told := slices.Clone(events)
	if !slices.Equal(p, picks(0, 4, 0, 0)) || !slices.Equal(answers, []uint32{7, 8}) {
		t.Errorf("P25.1: Go changes what it is given")
	}
	log := x.Log()
	want := slices.Clone(log)
	over(p, api.Pick{K: 5, Steps: 5})
	over(answers, 5)
	over(events, api.Event{K: 5})
	over(log, 5)
	logs(t, "nothing is shared", x, want)
	backs(t, x, 1)
	again, code := x.Forth(1)
	if code != api.OK || !slices.Equal(again, told) {
		t.Errorf("P25.2: Forth(1) = %+v, %d, want %+v", again, code, told)
	}
	over(again, api.Event{K: 5})
	more := ran(t, x, picks(0, 1), nil)
	over(x.Log(), 5)
	backs(t, x, 2)
	forth(t, x, 2, append(told, more...)...)
}

func over[T any](l []T, v T) {
	l = l[:cap(l)]
	for i := range l {
		l[i] = v
	}
}

// TestAnswersAgain: the answers that a leg was given are given again, those that nobody took too.
func TestAnswersAgain(t *testing.T) {
	m := house(t, "li r1, 0\nsys 24\nadd r7, r1\njmp -4")
	x := m.begun(t, 0, 1)
	first := ran(t, x, picks(0, 8), []uint32{5, 6, 7})
	second := ran(t, x, picks(0, 8), []uint32{100})
	for _, c := range []struct{ back, forth, sum int }{{2, 0, 0}, {0, 1, 11}, {0, 1, 111}, {1, 0, 11}, {1, 2, 111}} {
		backs(t, x, c.back)
		behind, _ := x.At()
		forth(t, x, c.forth, slices.Concat([][]api.Event{first, second}[behind:behind+c.forth]...)...)
		if n := do(t, m.k, 0, api.CallGetReg, x.Slot(), 7); n != c.sum {
			t.Errorf("P25.2: r7 is %d, want %d", n, c.sum)
		}
	}
	m.finds(t, x, api.Watch{On: 2, Reg: 7, Value: 11}, 1)
	m.finds(t, x, api.Watch{On: 2, Reg: 7, Value: 111}, 2)
}

// TestFlags: the root's flag is what it was, whatever it was, and whatever was answered; what lies below the root keeps its own.
func TestFlags(t *testing.T) {
	for set := range 4 {
		m := cellar(t, counts)
		do(t, m.k, 1, api.NatNew, 1, 0, 1, 0, 0)
		do(t, m.k, 1, api.NatFreeze, 1, 0, set%2)
		do(t, m.k, 1, api.NatFreeze, 1, 1, set/2)
		x := m.begun(t, 1, 1)
		keeps := func(what string) {
			t.Helper()
			for place, n := range treeAt(t, m.k, 1, x.Slot()) {
				if on := set>>place&1 == 1; look(t, m.k, n).Frozen != on {
					t.Errorf("P25.6: flags %02b: behind %s place %d is flagged: %v", set, what, place, !on)
				}
			}
		}
		keeps("Start")
		goes(t, x, picks(0, 4, 1, 4), nil, emits(3, 1), end(4), api.Event{K: 1})
		keeps("Go")
		goes(t, x, picks(0, 4), nil, emits(3, 2), end(4))
		backs(t, x, 1)
		keeps("Back")
		forth(t, x, 1, emits(3, 2), end(4))
		keeps("Forth")
		m.finds(t, x, api.Watch{On: 2, Reg: 4, Value: 2}, 2)
		keeps("Find")
		m.refusesGo(t, "P25.6", x, picks(0, 4097), nil, api.ErrArg)
		keeps("a refused Go")
		backs(t, x, 1)
		do(t, m.k, 1, api.CallSetReg, x.Slot(), 4, 50)
		goes(t, x, picks(0, 4), nil, emits(3, 51), end(4))
		m.refusesBack(t, "P25.6", x, 0, api.ErrDiverge, 3)
		m.refusesFind(t, "P25.6", x, api.Watch{On: 2, Reg: 4, Value: 51}, api.ErrDiverge, 3)
		keeps("a leg that parts")
		do(t, m.k, 1, api.NatFreeze, x.Slot(), 0, 1-set%2)
		set ^= 1
		backs(t, x, 2)
		keeps("a turn and Back")
	}
}

// TestSerials: moving takes those of the restore and of the replay, and no more.
func TestSerials(t *testing.T) {
	m := house(t, "sys 2\njmp -2")
	x := m.begun(t, 0, 1)
	for range 3 {
		ran(t, x, picks(0, 2), nil) // a frame each
	}
	for _, c := range []struct{ back, forth, serials int }{{0, 0, 5}, {1, 0, 4}, {2, 0, 2}, {0, 2, 4}, {0, 1, 5}, {3, 0, 2}} {
		before := m.k.Serial()
		if c.forth > 0 {
			if l, code := x.Forth(c.forth); code != api.OK || len(l) != 2*c.forth {
				t.Fatalf("P25.2: Forth(%d) = %v, %d", c.forth, l, code)
			}
		} else {
			backs(t, x, c.back)
		}
		if n := m.k.Serial() - before; n != c.serials {
			t.Errorf("P25.1: Back(%d), Forth(%d): %d serials were taken, want %d", c.back, c.forth, n, c.serials)
		}
	}
	before := m.k.Serial()
	if n, code := x.Find(api.Watch{On: 2, Reg: 1, Value: 2}); n != 2 || code != api.OK || m.k.Serial() != before+4 {
		t.Errorf("P25.1: Find = %d, %d, %d serials were taken", n, code, m.k.Serial()-before)
	}
}

// TestSharedFrames: a frame that others share with the old tree is not shared with the new one; theirs stays as it is.
func TestSharedFrames(t *testing.T) {
	m := newMachine()
	m.s = opened(t, m.k, 0, 31)
	do(t, m.k, 0, api.CallSpawn, 8, 2, 0)
	do(t, m.k, 0, api.CallAlloc)
	fill(t, m.k, 0, 2, "addi r4, 1\nst r4, r0, 31\njmp -3")
	do(t, m.k, 0, api.CallGrant, 2, 1, 15)
	do(t, m.k, 0, api.CallMapIn, 1, 0, 0, 1)
	do(t, m.k, 0, api.CallMap, 5, 2, 1)
	do(t, m.k, 0, api.CallStart, 1, 0)
	x := m.begun(t, 0, 1)
	ran(t, x, picks(0, 3), nil)
	ran(t, x, picks(0, 3), nil)
	mine := func() uint32 { v, _ := m.k.Load(0, 191); return v }
	if mine() != 2 {
		t.Fatalf("P25.2: the frame is not shared with the tree")
	}
	backs(t, x, 1)
	m.finds(t, x, api.Watch{On: 3, Addr: 31, Value: 2}, 2)
	forth(t, x, 1, end(3))
	ran(t, x, picks(0, 3), nil)
	if c, there := capAt(m.k, 0, 2); mine() != 2 || !there || len(m.k.State().Frames) != 2 {
		t.Errorf("P25.5: the caller's word is %d, its capability %+v, %v", mine(), c, there)
	}
	m.finds(t, x, api.Watch{On: 3, Addr: 31, Value: 3}, 3)
}

// TestAnotherBeginning: an adversary lays another image in the place of the beginning's: what is there is what is gone back to, and where the runs part is told.
func TestAnotherBeginning(t *testing.T) {
	m := house(t, counts)
	x := m.begun(t, 0, 1)
	goes(t, x, picks(0, 4), nil, emits(3, 1), end(4))
	raws, _ := m.s.Chain()
	im, err := image.Decode(raws[0])
	if err != nil {
		t.Fatal(err)
	}
	im.Forest.Envs[0].Regs.R[4] = 50
	data, err := image.Encode(im)
	if err != nil || len(data) != len(raws[0]) {
		t.Fatalf("no image: %v, %d bytes", err, len(data))
	}
	for i := 0; i < len(data); i += api.SectorBytes {
		m.d.Edit(i/api.SectorBytes, 0, data[i:min(len(data), i+api.SectorBytes)])
	}
	m.refusesBack(t, "P25.1: another beginning", x, 0, api.ErrDiverge, 2)
	m.refusesFind(t, "P25.1: another beginning", x, api.Watch{On: 2, Reg: 4, Value: 1}, api.ErrDiverge, 2)
	m.finds(t, x, api.Watch{On: 2, Reg: 4, Value: 50}, 0)
	backs(t, x, 1)
	m.counted(t, x, 50)
	fold, code := chain.Load([][]byte{data})
	if f := forest(t, m.k, 0, x.Slot()); code != api.OK || !same(f, fold.Forest) {
		t.Errorf("P25.3: the beginning is %+v, the store's chain tells %+v", f, fold.Forest)
	}
	m.refusesForth(t, "P25.1: another beginning", x, 1, api.ErrDiverge, 2)
	goes(t, x, picks(0, 4), nil, emits(3, 51), end(4))
}

// TestTheLegThatParts: the first of several; what lies ahead of it can still be gone.
func TestTheLegThatParts(t *testing.T) {
	for change := range 5 {
		m := house(t, counts)
		x := m.begun(t, 0, 1)
		for i := range 5 {
			if i == change {
				do(t, m.k, 0, api.CallSetReg, 1, 4, 100)
			}
			ran(t, x, picks(0, 4), nil)
		}
		for back := range 6 {
			what := fmt.Sprintf("P25.1: changed behind leg %d, back %d", change, back)
			if n := 5 - back; n > change {
				m.refusesBack(t, what, x, back, api.ErrDiverge, 2)
			}
		}
		backs(t, x, 5-change)
		for n := range 6 - change {
			if n > 0 {
				m.refusesForth(t, "P25.1: the leg that parts lies ahead", x, n, api.ErrDiverge, 2)
			}
		}
		m.counted(t, x, change)
		for n := range 6 {
			if n <= change {
				m.finds(t, x, api.Watch{On: 2, Reg: 4, Value: uint32(n)}, n)
			} else {
				m.refusesFind(t, "P25.1: looked for behind the leg that parts", x, api.Watch{On: 2, Reg: 4, Value: uint32(95 + n)}, api.ErrDiverge, 2)
			}
		}
	}
}

// TestDiskThatIsDown: runs need no disk, going back does; and nothing is ever written to it.
func TestDiskThatIsDown(t *testing.T) {
	m := house(t, counts)
	x := m.begun(t, 0, 1)
	m.goDown()
	goes(t, x, picks(0, 4), nil, emits(3, 1), end(4))
	m.refusesBack(t, "P25.1: the disk is down", x, 1, api.ErrDown, 0)
	m.refusesFind(t, "P25.1: the disk is down", x, api.Watch{On: 1}, api.ErrDown, 0)
	m.d.Crash(nil)
	acts := m.d.Acts()
	backs(t, x, 1)
	forth(t, x, 1, emits(3, 1), end(4))
	m.finds(t, x, api.Watch{On: 1}, 0)
	if m.d.Acts() != acts || len(m.d.Pending()) > 0 {
		t.Errorf("P25.5: going back writes to the disk")
	}
}
