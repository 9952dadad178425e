package ckpt_test

import (
	"fmt"
	"testing"

	"amber/api"
	"amber/gate"
)

// tight: a machine whose environment 0 has a store and a tree, in slot 1, with so many frames; a full image of the tree lies in the store.
func tight(t *testing.T, frames int) (machine, *keeper) {
	t.Helper()
	m := newMachine()
	x := &keeper{s: opened(t, m.k, 0, 31), home: 31}
	do(t, m.k, 0, api.CallSpawn, 48, 0, 0)
	for range frames {
		do(t, m.k, 1, api.CallAlloc)
	}
	do(t, m.k, 1, api.CallMap, 0, 0, 1)
	if saved, code := x.save(t, "P17.8", m.k, 1, false); code != api.OK || !saved.Full {
		t.Fatalf("P17.8: %+v, %d", saved, code)
	}
	return m, x
}

// squeezed leaves environment 0 room for so many extents, by its quota or by its slots; the slots that are to be dropped to undo it.
func squeezed(t *testing.T, k *gate.Kernel, room int, bySlots bool) []int {
	t.Helper()
	left := k.Call(0, request(api.NatLeft)).V
	if !bySlots {
		return []int{do(t, k, 0, api.CallSpawn, 0, 0, left[2]-room)}
	}
	var l []int
	for range left[3] - room {
		l = append(l, do(t, k, 0, api.NatSelf, -1, 0, 0, -1, 0))
	}
	return l
}

// fill writes to all frames of environment 1, so that they are all new.
func fill(t *testing.T, k *gate.Kernel, frames int, with byte) {
	t.Helper()
	for slot := range frames {
		data := make([]byte, 128)
		data[slot] = with
		if got := k.Call(1, api.Request{Call: api.NatFill, A: [6]int{slot}, Data: data}); got.Code != api.OK {
			t.Fatalf("fill(%d): %d", slot, got.Code)
		}
	}
}

// TestTooLittleRoom: an image that needs some extents, where there is room for fewer. What the refused one cleaned is in the next one all the same, written to again or not.
func TestTooLittleRoom(t *testing.T) {
	for need, frames := range map[int]int{1: 5, 2: 40} {
		for room := range need {
			for variant := range 16 {
				bySlots, full, again, fullThen := variant&1 > 0, variant&2 > 0, variant&4 > 0, variant&8 > 0
				what := fmt.Sprintf("P17.8: %d extents, room for %d, by slots %v, full %v, then %v", need, room, bySlots, full, fullThen)
				m, x := tight(t, frames)
				fill(t, m.k, frames, 7)
				blocks := squeezed(t, m.k, room, bySlots)
				serial := m.k.Serial()
				for range 2 {
					if saved, code := x.save(t, what, m.k, 1, full); code != api.ErrNoSpace {
						t.Fatalf("%s: %+v, %d", what, saved, code)
					}
				}
				if got := m.k.Serial(); got != serial+frames+2*room {
					t.Errorf("%s: serial %d, want %d", what, got, serial+frames+2*room)
				}
				for _, slot := range blocks {
					do(t, m.k, 0, map[bool]int{false: api.CallKill, true: api.CallDrop}[bySlots], slot)
				}
				if again {
					fill(t, m.k, frames, 9)
				}
				saved, code := x.save(t, what, m.k, 1, fullThen)
				if code != api.OK || saved.Full != fullThen || saved.Pages != frames {
					t.Fatalf("%s: with enough room: %+v, %d", what, saved, code)
				}
				folds(t, what, x.s, len(x.s.Extents()), present(t, m.k, 0, 1, 2))
			}
		}
	}
}

// TestJustEnoughRoom: with room for just as many extents as the image needs it is done; a full image has not the room of the chain that goes.
func TestJustEnoughRoom(t *testing.T) {
	for _, bySlots := range []bool{false, true} {
		for _, full := range []bool{false, true} {
			m, x := tight(t, 40)
			fill(t, m.k, 40, 7)
			squeezed(t, m.k, 2, bySlots)
			if saved, code := x.save(t, "P17.8: just enough", m.k, 1, full); code != api.OK || saved.Pages != 40 {
				t.Errorf("P17.8: just enough: %+v, %d", saved, code)
			}
			want := api.ErrNoSpace
			if full {
				want = api.OK // the old chain's two extents are free again
			}
			fill(t, m.k, 40, 8)
			if saved, code := x.save(t, "P17.8: again", m.k, 1, full); code != want {
				t.Errorf("P17.8: again: %+v, %d, want %d", saved, code, want)
			}
		}
	}
}

// TestNoRoomForTheFirst: nothing was ever committed, and nothing is.
func TestNoRoomForTheFirst(t *testing.T) {
	m, s := example(t)
	x := &keeper{s: s, home: 31}
	block := squeezed(t, m.k, 0, false)[0]
	for _, full := range []bool{false, true} {
		if saved, code := x.save(t, "P17.8: the first", m.k, 2, full); code != api.ErrNoSpace {
			t.Errorf("P17.8: the first: %+v, %d", saved, code)
		}
	}
	if s.Gen() != 0 || m.d.Acts() != 0 {
		t.Errorf("P17.8: Gen %d, %d acts", s.Gen(), m.d.Acts())
	}
	do(t, m.k, 0, api.CallKill, block)
	saves(t, "P17.8: the first, with room", m.k, s, 0, 2, false, api.Saved{Gen: 1, Classes: 1, Pages: 1, Bytes: 284, Full: true})
}

// TestNoRoomInALongChain: the full image that must come behind five is refused, and comes when there is room.
func TestNoRoomInALongChain(t *testing.T) {
	m, x := tight(t, 3)
	for range 4 {
		x.save(t, "P17.8", m.k, 1, false)
	}
	block := squeezed(t, m.k, 0, false)[0]
	stored(t, m.k, 1, 0, 7)
	if saved, code := x.save(t, "P17.8: a long chain", m.k, 1, false); code != api.ErrNoSpace || len(x.s.Extents()) != 5 {
		t.Errorf("P17.8: a long chain: %+v, %d", saved, code)
	}
	do(t, m.k, 0, api.CallKill, block)
	if saved, code := x.save(t, "P17.8: a long chain", m.k, 1, false); code != api.OK || !saved.Full || saved.Gen != 6 {
		t.Errorf("P17.8: a long chain, with room: %+v, %d", saved, code)
	}
}
