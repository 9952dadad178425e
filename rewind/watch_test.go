package rewind_test

import (
	"math"
	"testing"

	"amber/api"
)

// Find: each kind of watch, at its edges.

// pairOfGuests: below environment 1 of a house, which counts, another that counts by twos in r5, and lays it at its address 40 (page 1, slot 1); its page 2 leads to the same frame, to be read.
func pairOfGuests(t *testing.T) machine {
	t.Helper()
	m := house(t, counts)
	do(t, m.k, 1, api.CallSpawn, 4, 0, 0)
	do(t, m.k, 2, api.CallAlloc)
	fill(t, m.k, 2, 0, "addi r5, 2\nst r5, r0, 40\njmp -3")
	do(t, m.k, 2, api.CallAlloc)
	do(t, m.k, 2, api.CallMap, 0, 0, 0)
	do(t, m.k, 2, api.CallMap, 1, 1, 1)
	do(t, m.k, 2, api.CallMap, 2, 1, 0)
	do(t, m.k, 1, api.CallStart, 1, 0)
	return m
}

func TestWatches(t *testing.T) {
	m := pairOfGuests(t)
	x := m.begun(t, 0, 1)
	goes(t, x, picks(1, 3), nil, api.Event{Kind: api.EvEnd, K: 1, Steps: 3})
	goes(t, x, picks(0, 3, 1, 2), nil, emits(3, 1), end(3), api.Event{Kind: api.EvEnd, K: 1, Steps: 2})
	goes(t, x, picks(1, 1, 0, 1), nil, api.Event{Kind: api.EvEnd, K: 1, Steps: 1}, end(1))
	jump, _ := m.k.Load(1, 3)
	for _, c := range []struct {
		w    api.Watch
		want int
	}{
		{api.Watch{On: 1, K: 0, Value: 0}, 0},
		{api.Watch{On: 1, K: 0, Value: 3}, 2},
		{api.Watch{On: 1, K: 1, Value: 2}, 2},
		{api.Watch{On: 1, K: 1, Value: 3}, -1},
		{api.Watch{On: 2, K: 1, Reg: 5, Value: 2}, 1},
		{api.Watch{On: 2, K: 1, Reg: 5, Value: 4}, 2},
		{api.Watch{On: 2, K: 0, Reg: 5, Value: 2}, -1},
		{api.Watch{On: 2, K: 0, Reg: 4, Value: 1}, 2},
		{api.Watch{On: 2, K: 0, Reg: 0, Value: 0}, 0},
		{api.Watch{On: 2, K: 0, Reg: 7, Value: 0}, 0},
		{api.Watch{On: 3, K: 1, Addr: 40, Value: 0}, 0},
		{api.Watch{On: 3, K: 1, Addr: 40, Value: 2}, 1},
		{api.Watch{On: 3, K: 1, Addr: 72, Value: 4}, 2},
		{api.Watch{On: 3, K: 1, Addr: 41, Value: 2}, -1},
		{api.Watch{On: 3, K: 0, Addr: 40, Value: 0}, -1},
		{api.Watch{On: 3, K: 0, Addr: 3, Value: jump}, 0},
		{api.Watch{On: 3, K: 0, Addr: 31, Value: 0}, 0},
		{api.Watch{On: 3, K: 0, Addr: 32, Value: 0}, -1},
		{api.Watch{On: 3, K: 1, Addr: 96, Value: 0}, -1},
		{api.Watch{On: 3, K: 1, Addr: 511, Value: 0}, -1},
		{api.Watch{On: 3, K: 1, Addr: 512, Value: 0}, -1},
		{api.Watch{On: 3, K: 1, Addr: math.MaxUint32, Value: 0}, -1},
		{api.Watch{On: 4, K: 0, Value: 1}, 0},
		{api.Watch{On: 4, K: 1, Value: 1}, 0},
		{api.Watch{On: 4, K: 1, Value: 0}, -1},
		{api.Watch{On: 4, K: 1, Value: math.MaxUint32}, -1},
		{api.Watch{On: 1, K: 2}, -1},
		{api.Watch{On: 2, K: 2}, -1},
		{api.Watch{On: 3, K: 2}, -1},
		{api.Watch{On: 4, K: 2}, -1},
		{api.Watch{On: 4, K: -1}, -1},
		{api.Watch{On: 1, K: math.MaxInt}, -1},
		{api.Watch{On: 1, K: math.MinInt}, -1},
		{api.Watch{On: 1, K: 1, Reg: 99, Addr: 7, Value: 2}, 2},
		{api.Watch{On: 4, K: 1, Reg: -99, Addr: 7, Value: 1}, 0},
		{api.Watch{On: 3, K: 1, Reg: 99, Addr: 40, Value: 2}, 1},
	} {
		m.finds(t, x, c.w, c.want)
	}
}

// life: a child is made and killed, then a notice is waited for; from 6 on the guest exits, from 7 on it faults.
const life = "li r1, 0\nli r2, 0\nli r3, 0\nsys 9\nsys 13\nsys 12\nsys 1\ndiv r1, r7"

// TestWatchedStates: each state that a guest can come into, and a place that comes and goes.
func TestWatchedStates(t *testing.T) {
	m := house(t, life)
	x := m.begun(t, 0, 1)
	ran(t, x, picks(0, 4), nil)
	ran(t, x, picks(0, 1), nil)
	ran(t, x, picks(0, 1), nil)
	m.finds(t, x, api.Watch{On: 4, K: 1, Value: api.Idle}, 1)
	m.finds(t, x, api.Watch{On: 4, K: 0, Value: api.Waiting}, 3)
	m.finds(t, x, api.Watch{On: 4, K: 0, Value: api.Done}, -1)
	for _, c := range []struct{ pc, state int }{{6, api.Done}, {7, api.Faulted}} {
		m := house(t, life)
		do(t, m.k, 0, api.CallSetReg, 1, 8, c.pc)
		x := m.begun(t, 0, 1)
		ran(t, x, nil, nil)
		ran(t, x, picks(0, 1), nil)
		m.finds(t, x, api.Watch{On: 4, Value: uint32(c.state)}, 2)
		m.finds(t, x, api.Watch{On: 4, Value: api.Waiting}, -1)
	}
}

// TestWatchesAhead: Find goes through all legs, wherever the trip stands, and leaves it there.
func TestWatchesAhead(t *testing.T) {
	m := house(t, counts)
	x := m.begun(t, 0, 1)
	for range 4 {
		ran(t, x, picks(0, 4), nil)
	}
	for back := range 5 {
		backs(t, x, back)
		for n := range 5 {
			m.finds(t, x, api.Watch{On: 2, Reg: 4, Value: uint32(n)}, n)
		}
		m.finds(t, x, api.Watch{On: 2, Reg: 4, Value: 5}, -1)
		stands(t, x, 4-back, 4, x.Slot())
		m.counted(t, x, 4-back)
		if l, code := x.Forth(back); code != api.OK || len(l) != 2*back {
			t.Fatalf("P25.2: Forth(%d) = %v, %d", back, l, code)
		}
	}
	backs(t, x, 3)
	ran(t, x, picks(0, 1), nil)
	m.finds(t, x, api.Watch{On: 2, Reg: 4, Value: 3}, -1)
}

// TestWrongWatches: told ahead of whether the trip stands.
func TestWrongWatches(t *testing.T) {
	m := house(t, counts)
	x := m.begun(t, 0, 1)
	ran(t, x, picks(0, 4), nil)
	for _, on := range []int{0, -1, 5, 6, math.MaxInt, math.MinInt} {
		m.refusesFind(t, "P25.1", x, api.Watch{On: on}, api.ErrArg, 0)
	}
	for _, reg := range []int{-1, 8, math.MaxInt, math.MinInt} {
		m.refusesFind(t, "P25.1", x, api.Watch{On: 2, Reg: reg}, api.ErrArg, 0)
		m.finds(t, x, api.Watch{On: 1, Reg: reg}, 0)
		m.finds(t, x, api.Watch{On: 4, Reg: reg, Value: 1}, 0)
	}
}
