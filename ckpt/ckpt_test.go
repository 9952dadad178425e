package ckpt_test

import (
	"bytes"
	"fmt"
	"math"
	"testing"

	"amber/api"
	"amber/chain"
	"amber/gate"
	"amber/image"
	"amber/store"
	"amber/walk"
)

// TestExampleFirst: the chapter's example 1, with the bytes told one by one, and the acts of the disk.
func TestExampleFirst(t *testing.T) {
	m, s := example(t)
	saves(t, "P17.4", m.k, s, 0, 2, false, api.Saved{Gen: 1, Classes: 1, Pages: 1, Bytes: 76 + 50 + 9 + 4 + 17 + 128, Full: true})
	if m.k.Runs(1) || flag(m.k, 1) || m.d.Acts() != 6 || m.k.Serial() != 8 {
		t.Errorf("P17.3: runs %v, flag %v, %d acts, serial %d", m.k.Runs(1), flag(m.k, 1), m.d.Acts(), m.k.Serial())
	}
	folds(t, "P17.6", s, 1, present(t, m.k, 0, 2, 1))
	if got := fmt.Sprint(s.Extents()); got != "[[0]]" {
		t.Errorf("P17.2: the image lies on %s", got)
	}
}

// TestExampleChain: example 2.
func TestExampleChain(t *testing.T) {
	m, s := example(t)
	do(t, m.k, 0, api.CallStart, 2, 0)
	all := func(gen int, full bool) api.Saved {
		return api.Saved{Gen: gen, Classes: 1, Pages: 1, Bytes: 284, Full: full}
	}
	nothing := func(gen int) api.Saved { return api.Saved{Gen: gen, Classes: 1, Bytes: 156} }
	step := func(asked bool, want api.Saved, images int) {
		t.Helper()
		saves(t, "P17.2", m.k, s, 0, 2, asked, want)
		folds(t, "P17.6", s, images, present(t, m.k, 0, 2, want.Gen))
		if !m.k.Runs(1) {
			t.Fatalf("P17.3: behind generation %d environment 1 runs no more", want.Gen)
		}
	}
	step(false, all(1, true), 1)
	step(false, nothing(2), 2)
	stored(t, m.k, 1, 0, 7)
	step(false, all(3, false), 3)
	step(true, all(4, true), 1)
	for gen := 5; gen <= 8; gen++ {
		step(false, nothing(gen), gen-3)
	}
	step(false, all(9, true), 1)
	step(false, nothing(10), 2)
	step(true, all(11, true), 1)
	step(true, all(12, true), 1)
}

// TestExampleRefusals: example 3.
func TestExampleRefusals(t *testing.T) {
	m, s := example(t)
	do(t, m.k, 0, api.NatSelf, -1, 0, 0, 5, 3)
	before := m.shape()
	refused(t, "P17.1: a frame", m.k, s, 0, 1, false, api.ErrKind)
	refused(t, "P17.1: a free slot", m.k, s, 0, 9, false, api.ErrNoCap)
	refused(t, "P17.1: another's store", m.k, s, 1, 0, false, api.ErrArg)
	refused(t, "P17.1: no store", m.k, nil, 0, 2, false, api.ErrArg)
	refused(t, "P17.1: itself", m.k, s, 0, 5, false, api.ErrSelf)
	m.unchanged(t, "P17.1", before)
	if s.Close() != api.OK {
		t.Fatal("no Close")
	}
	before = m.shape()
	refused(t, "P17.1: closed", m.k, s, 0, 2, false, api.ErrArg)
	m.unchanged(t, "P17.1: closed", before)
}

// TestExampleFlag: example 4, and the flags of all environments of a deeper tree, in all sets, refused or not.
func TestExampleFlag(t *testing.T) {
	for set := range 8 {
		m, s := example(t)
		do(t, m.k, 0, api.CallStart, 2, 0)
		for range 2 {
			do(t, m.k, 1, api.CallStart, do(t, m.k, 1, api.CallSpawn, 2, 0, 0), 0)
		}
		for place := range 3 {
			do(t, m.k, 0, api.NatFreeze, 2, place, set>>place&1)
		}
		looks := func() string {
			return fmt.Sprint(flag(m.k, 1), flag(m.k, 2), flag(m.k, 3), m.k.Runs(1), m.k.Runs(2), m.k.Runs(3), flag(m.k, 0))
		}
		before := looks()
		same := func(what string) {
			t.Helper()
			if now := looks(); now != before {
				t.Fatalf("P17.3: flags %03b, %s: %s, want %s", set, what, now, before)
			}
		}
		saves(t, "P17.3", m.k, s, 0, 2, false, api.Saved{Gen: 1, Classes: 1, Pages: 1, Bytes: 76 + 150 + 27 + 4 + 17 + 128, Full: true})
		same("full")
		saves(t, "P17.3", m.k, s, 0, 2, false, api.Saved{Gen: 2, Classes: 1, Bytes: 76 + 150 + 27 + 4 + 17})
		same("incremental")
		x := do(t, m.k, 0, api.CallSpawn, 0, 0, m.k.Call(0, request(api.CallLeft)).V[2])
		refused(t, "P17.8", m.k, s, 0, 2, false, api.ErrNoSpace)
		same("no room")
		do(t, m.k, 0, api.CallKill, x)
		m.d.Arm(2)
		refused(t, "P17.3", m.k, s, 0, 2, true, api.ErrDown)
		same("gone down")
		refused(t, "P17.3", m.k, s, 0, 2, false, api.ErrDown)
		same("down")
		do(t, m.k, 0, api.CallDrop, 0)
		refused(t, "P17.3", m.k, s, 0, 2, false, api.ErrNoCap)
		same("home dropped")
	}
}

// TestExampleDown: example 5.
func TestExampleDown(t *testing.T) {
	for _, on := range []int{0, 1} {
		m, s := example(t)
		do(t, m.k, 0, api.NatFreeze, 2, 0, on)
		m.d.Arm(2)
		refused(t, "P17.2", m.k, s, 0, 2, false, api.ErrDown)
		if flag(m.k, 1) != (on == 1) || s.Gen() != 0 || len(s.Extents()) != 0 || m.d.Acts() != 2 || !m.d.Down() {
			t.Errorf("P17.3: flag %v, Gen %d, Extents %v, %d acts", flag(m.k, 1), s.Gen(), s.Extents(), m.d.Acts())
		}
		stored(t, m.k, 1, 0, 7)
		do(t, m.k, 0, api.CallAlloc)
		do(t, m.k, 0, api.CallStart, 2, 0)
		do(t, m.k, 0, api.CallSpawn, 1, 0, 0)
		if m.k.Runs(1) != (on == 0) {
			t.Errorf("P17.3: runs %v", m.k.Runs(1))
		}
	}
}

// TestExampleByHand: example 6, and other things that are no chain to build upon.
func TestExampleByHand(t *testing.T) {
	m, s := example(t)
	if s.Commit([]byte("x"), true) != api.OK {
		t.Fatal("no Commit")
	}
	saves(t, "P17.2: behind a commit by hand", m.k, s, 0, 2, false, api.Saved{Gen: 2, Classes: 1, Pages: 1, Bytes: 284, Full: true})
	folds(t, "P17.6", s, 1, present(t, m.k, 0, 2, 2))
	saves(t, "P17.2", m.k, s, 0, 2, false, api.Saved{Gen: 3, Classes: 1, Bytes: 156})
	if s.Commit([]byte("x"), false) != api.OK {
		t.Fatal("no Commit")
	}
	saves(t, "P17.2: behind a commit by hand", m.k, s, 0, 2, false, api.Saved{Gen: 5, Classes: 1, Pages: 1, Bytes: 284, Full: true})
	folds(t, "P17.6", s, 1, present(t, m.k, 0, 2, 5))
}

// encoded: the full image of a tree, as bytes.
func encoded(t *testing.T, k *gate.Kernel, gen int, marked bool) []byte {
	t.Helper()
	x := present(t, k, 0, 2, gen)
	for i := range x.Keys {
		if !marked {
			x.Keys[i].Mark = 0
		}
	}
	im, code := chain.Full(x.Forest, x.Keys, gen)
	data, err := image.Encode(im)
	if code != api.OK || err != nil {
		t.Fatalf("no image: %d, %v", code, err)
	}
	return data
}

// TestGenerationsByHand: a chain that loads is built upon just where it tells the store's own generation.
func TestGenerationsByHand(t *testing.T) {
	for _, gen := range []int{1, 2, 3, 4, 5, 7, api.MaxGen} {
		for extra := range 3 {
			m, s := example(t)
			for range 2 + extra {
				if s.Commit([]byte("x"), true) != api.OK {
					t.Fatal("no Commit")
				}
			}
			walk.Clean(m.k, 0, 2)
			if s.Commit(encoded(t, m.k, gen, true), true) != api.OK {
				t.Fatal("no Commit")
			}
			want := api.Saved{Gen: 4 + extra, Classes: 1, Pages: 1, Bytes: 284, Full: true}
			if gen == 3+extra {
				want = api.Saved{Gen: 4 + extra, Classes: 1, Bytes: 156}
			}
			saves(t, fmt.Sprintf("P17.2: generation %d says %d", 3+extra, gen), m.k, s, 0, 2, false, want)
			folds(t, "P17.6", s, 2-want.Pages, present(t, m.k, 0, 2, want.Gen))
		}
	}
}

// TestKeysWithoutMarks: what was landed has no marks: it is built upon, but no page of it is known again.
func TestKeysWithoutMarks(t *testing.T) {
	m, s := example(t)
	walk.Clean(m.k, 0, 2)
	if s.Commit(encoded(t, m.k, 1, false), true) != api.OK {
		t.Fatal("no Commit")
	}
	saves(t, "P17.6: behind a landing", m.k, s, 0, 2, false, api.Saved{Gen: 2, Classes: 1, Pages: 1, Bytes: 284})
	folds(t, "P17.6: behind a landing", s, 2, present(t, m.k, 0, 2, 2))
	saves(t, "P17.7: behind a landing", m.k, s, 0, 2, false, api.Saved{Gen: 3, Classes: 1, Bytes: 156})
	folds(t, "P17.6: behind a landing", s, 3, present(t, m.k, 0, 2, 3))
}

// TestSpoilt: one byte of an image is another on the disk: the next one is full.
func TestSpoilt(t *testing.T) {
	for image := range 3 {
		for _, at := range []int{0, 4, 8, 72, 75, 76, 127} {
			m, s := example(t)
			for gen := range 3 {
				stored(t, m.k, 1, 0, uint32(gen))
				saves(t, "P17.2", m.k, s, 0, 2, false, api.Saved{Gen: gen + 1, Classes: 1, Pages: 1, Bytes: 284, Full: gen == 0})
			}
			raw, _ := m.d.Raw(32 * image)
			m.d.Edit(32*image, at, []byte{raw[at] ^ 0x40})
			saves(t, fmt.Sprintf("P17.2: image %d spoilt at %d", image, at), m.k, s, 0, 2, false, api.Saved{Gen: 4, Classes: 1, Pages: 1, Bytes: 284, Full: true})
			folds(t, "P17.6", s, 1, present(t, m.k, 0, 2, 4))
		}
	}
}

// TestTreeWithoutFrames: nothing to clean, no page.
func TestTreeWithoutFrames(t *testing.T) {
	m := newMachine()
	s := opened(t, m.k, 0, 0)
	slot := do(t, m.k, 0, api.CallSpawn, 0, 0, 0)
	serial := m.k.Serial()
	saves(t, "P17.4", m.k, s, 0, slot, false, api.Saved{Gen: 1, Bytes: 126, Full: true})
	saves(t, "P17.4", m.k, s, 0, slot, false, api.Saved{Gen: 2, Bytes: 126})
	folds(t, "P17.6", s, 2, present(t, m.k, 0, slot, 2))
	if m.k.Serial() != serial+2 {
		t.Errorf("P17.3: serial %d, want %d: the store's two claims", m.k.Serial(), serial+2)
	}
}

// TestGreatTree: as much as a tree below environment 0 can have: 15 environments, all lists full, all frames, all pages mapped.
func TestGreatTree(t *testing.T) {
	m := newMachine()
	k := m.k
	s := opened(t, k, 0, 31)
	frame := do(t, k, 0, api.CallAlloc)
	slot := do(t, k, 0, api.CallSpawn, 63, 14, 8)
	for range 14 {
		do(t, k, 0, api.NatNew, slot, 0, 0, 0, 0)
	}
	for range 47 {
		do(t, k, 1, api.CallAlloc)
	}
	do(t, k, 0, api.NatPlace, frame, slot, 0, -1, 7)
	for v := range 16 {
		do(t, k, 1, api.CallMap, v, v, 1)
		stored(t, k, 1, uint32(32*v), uint32(v+1))
	}
	for place := 1; place < 15; place++ {
		for to := range 48 {
			do(t, k, 0, api.NatSelf, slot, (place+to)%15, place, to, 15)
		}
	}
	bytes := 76 + 15*50 + 15*48*9 + 16*4 + 47*17 + 9
	saves(t, "P17.4: a great tree", k, s, 0, slot, false, api.Saved{Gen: 1, Classes: 47, Pages: 47, Bytes: bytes + 47*128, Full: true})
	folds(t, "P17.6: a great tree", s, 1, present(t, k, 0, slot, 1))
	stored(t, k, 1, 0, 9)
	stored(t, k, 1, 511, 9)
	saves(t, "P17.4: a great tree", k, s, 0, slot, false, api.Saved{Gen: 2, Classes: 47, Pages: 2, Bytes: bytes + 2*128})
	folds(t, "P17.6: a great tree", s, 2, present(t, k, 0, slot, 2))
}

// TestManyFrames: all 64 frames of the machine are in the tree.
func TestManyFrames(t *testing.T) {
	m := newMachine()
	s := opened(t, m.k, 0, 7)
	slot := do(t, m.k, 0, api.CallSpawn, 64, 1, 0)
	do(t, m.k, 1, api.CallSpawn, 20, 0, 0)
	for i := range 64 {
		do(t, m.k, 1+i/44, api.CallAlloc)
	}
	bytes := 76 + 2*50 + 65*9 + 64*17
	saves(t, "P17.4: all frames", m.k, s, 0, slot, false, api.Saved{Gen: 1, Classes: 64, Pages: 64, Bytes: bytes + 64*128, Full: true})
	for place := range 2 {
		for at := range 20 {
			data := make([]byte, 128)
			data[at] = 1
			m.k.Call(1+place, api.Request{Call: api.NatFill, A: [6]int{1 + at}, Data: data})
		}
	}
	saves(t, "P17.4: all frames", m.k, s, 0, slot, false, api.Saved{Gen: 2, Classes: 64, Pages: 39, Bytes: bytes + 39*128})
	folds(t, "P17.6: all frames", s, 2, present(t, m.k, 0, slot, 2))
}

// TestLastGeneration: behind api.MaxGen nothing is committed, whatever else would be refused; but the tree is cleaned. One generation ahead of it all is as ever.
func TestLastGeneration(t *testing.T) {
	for _, gen := range []int{api.MaxGen - 2, api.MaxGen} {
		for set := range 8 {
			m, s := example(t)
			if s.Close() != api.OK || m.d.Edit(993, 0, lastGeneration(gen)) != api.OK {
				t.Fatal("no edit")
			}
			s = opened(t, m.k, 0, 31)
			if gen < api.MaxGen {
				saves(t, "P17.2: near the last generation", m.k, s, 0, 2, set&1 == 1, api.Saved{Gen: gen + 1, Classes: 1, Pages: 1, Bytes: 284, Full: true})
				saves(t, "P17.2: the last generation", m.k, s, 0, 2, false, api.Saved{Gen: gen + 2, Classes: 1, Bytes: 156})
				folds(t, "P17.6: the last generation", s, 2, present(t, m.k, 0, 2, gen+2))
			}
			if set&2 != 0 {
				m.goDown()
			}
			if set&4 != 0 {
				do(t, m.k, 0, api.CallDrop, 0)
			}
			stored(t, m.k, 1, 0, 7)
			serial := m.k.Serial()
			refused(t, "P17.2: behind the last generation", m.k, s, 0, 2, set&1 == 1, api.ErrNoSpace)
			if dirty, _ := walk.Dirty(m.k, 0, 2); flag(m.k, 1) || s.Gen() != api.MaxGen || m.k.Serial() != serial+1 || dirty[0] {
				t.Errorf("P17.3: flag %v, Gen %d, serial %d of %d, dirty %v", flag(m.k, 1), s.Gen(), m.k.Serial(), serial, dirty)
			}
		}
	}
}

// TestChainIsAskedOnlyThen: where the disk is down, Chain refuses ahead of all claims, and Commit behind them: so the serials tell who was asked.
func TestChainIsAskedOnlyThen(t *testing.T) {
	for images := 0; images <= 5; images++ {
		for _, full := range []bool{false, true} {
			m, s := example(t)
			for range images {
				saves(t, "P17.2", m.k, s, 0, 2, false, api.Saved{Gen: s.Gen() + 1, Classes: 1, Pages: 1 - min(s.Gen(), 1), Bytes: 284 - 128*min(s.Gen(), 1), Full: s.Gen() == 0})
			}
			stored(t, m.k, 1, 0, 7)
			asked := !full && images > 0 && images < 5
			serial := m.k.Serial() + 2
			if asked {
				serial--
			}
			m.goDown()
			what := fmt.Sprintf("P17.2: %d images, full %v", images, full)
			refused(t, what, m.k, s, 0, 2, full, api.ErrDown)
			if m.k.Serial() != serial {
				t.Errorf("%s: serial %d, want %d", what, m.k.Serial(), serial)
			}
			do(t, m.k, 0, api.CallSpawn, 0, 0, m.k.Call(0, request(api.CallLeft)).V[2])
			want := api.ErrNoSpace
			if asked {
				want = api.ErrDown
			}
			refused(t, what+", no room", m.k, s, 0, 2, full, want)
			do(t, m.k, 0, api.CallDrop, 0)
			refused(t, what+", home dropped", m.k, s, 0, 2, full, api.ErrNoCap)
			do(t, m.k, 0, api.CallDrop, 2)
			refused(t, what+", the tree dropped", m.k, s, 0, 2, full, api.ErrNoCap)
		}
	}
}

// TestStoreSlots: each of the store's slots dropped, or held with other rights.
func TestStoreSlots(t *testing.T) {
	for slot := range 4 {
		for rights := -1; rights < 16; rights++ {
			m := newMachine()
			s := opened(t, m.k, 0, 31)
			for gen := range 3 {
				if gen == 0 {
					do(t, m.k, 0, api.NatSelf, -1, 0, 0, 40, 15)
					do(t, m.k, 0, api.CallSpawn, 4, 0, 0)
					do(t, m.k, 0, api.NatPlace, 1, 40, 0, 41, 15)
					do(t, m.k, 0, api.CallDrop, 1)
				}
				saves(t, "P17.2", m.k, s, 0, 41, false, api.Saved{Gen: gen + 1, Bytes: 126, Full: gen == 0})
			}
			if rights >= 0 {
				do(t, m.k, 0, api.NatPlace, slot, 40, 0, 42, 15)
			}
			do(t, m.k, 0, api.CallDrop, slot)
			if rights >= 0 {
				do(t, m.k, 0, api.NatPlace, 42, 40, 0, slot, rights)
			}
			for _, full := range []bool{false, true} {
				before := m.shape()
				if rights%4 != 3 || rights < 0 {
					refused(t, fmt.Sprintf("P17.2: slot %d with rights %d", slot, rights), m.k, s, 0, 41, full, api.ErrNoCap)
					m.unchanged(t, "P17.5", before)
				} else if full {
					saves(t, "P17.2", m.k, s, 0, 41, full, api.Saved{Gen: 4, Bytes: 126, Full: true})
				}
			}
		}
	}
}

// fault: what is wrong with a call, and the error for it; in the order in which P17.1 names them.
type fault struct {
	name string
	code api.Errno
}

var faults = []fault{{"closed", api.ErrArg}, {"dead", api.ErrEnv}, {"free", api.ErrNoCap}, {"kind", api.ErrKind}, {"rights", api.ErrRights}, {"self", api.ErrSelf}, {"last", api.ErrNoSpace}, {"down", api.ErrDown}}

// TestOrderOfRefusals: all sets of faults: the first is told, and nothing changes.
func TestOrderOfRefusals(t *testing.T) {
	for set := range 1 << len(faults) {
		m := newMachine()
		has := map[string]bool{}
		var want api.Errno
		for i := len(faults) - 1; i >= 0; i-- {
			if set>>i&1 == 1 {
				has[faults[i].name] = true
				want = faults[i].code
			}
		}
		if has["last"] {
			m.d.Edit(993, 0, lastGeneration(api.MaxGen))
		}
		own := do(t, m.k, 0, api.CallSpawn, 20, 4, 20)
		s := opened(t, m.k, 1, 31)
		slot := badSlot(t, m.k, has)
		if has["down"] {
			m.goDown()
		}
		if has["dead"] {
			do(t, m.k, 0, api.CallKill, own)
		}
		if has["closed"] {
			s.Close()
		}
		before := m.shape()
		for _, full := range []bool{false, true} {
			what := fmt.Sprintf("P17.1: the faults %v", has)
			if want == api.OK {
				saves(t, what, m.k, s, 1, slot, full, api.Saved{Gen: s.Gen() + 1, Bytes: 126, Full: full || s.Gen() == 0})
				continue
			}
			refused(t, what, m.k, s, 1, slot, full, want)
			if want != api.ErrNoSpace && want != api.ErrDown {
				m.unchanged(t, what, before)
			}
		}
	}
}

// badSlot: a slot of environment 1's list that has these faults.
func badSlot(t *testing.T, k *gate.Kernel, has map[string]bool) int {
	t.Helper()
	rights := 3
	if has["rights"] {
		rights = 13
	}
	switch {
	case has["free"]:
		return 30
	case has["kind"]:
		frame := do(t, k, 1, api.CallAlloc)
		return do(t, k, 1, api.CallDerive, frame, rights)
	case has["self"]:
		return do(t, k, 1, api.NatSelf, -1, 0, 0, 30, rights)
	}
	child := do(t, k, 1, api.CallSpawn, 1, 0, 0)
	return do(t, k, 1, api.CallDerive, child, rights)
}

// TestRights: just those capabilities serve that have Read and Write; the others are refused, on the caller's own tree too.
func TestRights(t *testing.T) {
	for rights := range 16 {
		m, s := example(t)
		do(t, m.k, 0, api.NatSelf, -1, 1, 0, 21, rights)
		do(t, m.k, 0, api.NatSelf, -1, 0, 0, 22, rights)
		before := m.shape()
		want := api.ErrSelf
		if rights&3 != 3 {
			want = api.ErrRights
			refused(t, fmt.Sprint("P17.1: rights ", rights), m.k, s, 0, 21, true, want)
		}
		refused(t, fmt.Sprint("P17.1: itself, rights ", rights), m.k, s, 0, 22, true, want)
		m.unchanged(t, "P17.1", before)
		if rights&3 == 3 {
			saves(t, "P17.1", m.k, s, 0, 21, true, api.Saved{Gen: 1, Classes: 1, Pages: 1, Bytes: 284, Full: true})
		}
	}
}

// TestSelf: an environment in the middle: its own tree and those above it are refused, its children's and its brother's are not.
func TestSelf(t *testing.T) {
	m := newMachine()
	k := m.k
	brother := do(t, k, 0, api.CallSpawn, 4, 0, 0)
	slot := do(t, k, 0, api.CallSpawn, 20, 4, 20)
	s := opened(t, k, 2, 31)
	child := do(t, k, 2, api.CallSpawn, 2, 0, 0)
	do(t, k, 0, api.NatPlace, brother, slot, 0, 20, 3)
	do(t, k, 0, api.NatPlace, slot, slot, 0, 21, 3)
	do(t, k, 0, api.NatSelf, -1, 0, 2, 22, 3)
	before := m.shape()
	refused(t, "P17.1: its own tree", k, s, 2, 21, false, api.ErrSelf)
	refused(t, "P17.1: its parent's tree", k, s, 2, 22, false, api.ErrSelf)
	m.unchanged(t, "P17.1", before)
	saves(t, "P17.1: its child's tree", k, s, 2, child, false, api.Saved{Gen: 1, Bytes: 126, Full: true})
	saves(t, "P17.1: its brother's tree", k, s, 2, 20, false, api.Saved{Gen: 2, Bytes: 126})
	folds(t, "P17.6", s, 2, present(t, k, 2, 20, 2))
}

// TestWhoseStore: a store serves the kernel and the environment that it was opened for, and no other.
func TestWhoseStore(t *testing.T) {
	m, s := example(t)
	o, r := example(t)
	before, beside := m.shape(), o.shape()
	for _, full := range []bool{false, true} {
		refused(t, "P17.1: another kernel's store", m.k, r, 0, 2, full, api.ErrArg)
		refused(t, "P17.1: another kernel's store", o.k, s, 0, 2, full, api.ErrArg)
		refused(t, "P17.1: no kernel", nil, s, 0, 2, full, api.ErrArg)
		refused(t, "P17.1: neither", nil, nil, 0, 2, full, api.ErrArg)
		refused(t, "P17.1: no store", m.k, nil, 99, 99, full, api.ErrArg)
		refused(t, "P17.1: another environment", m.k, s, 99, 99, full, api.ErrArg)
	}
	m.unchanged(t, "P17.1", before)
	o.unchanged(t, "P17.1", beside)
	saves(t, "P17.1", m.k, s, 0, 2, false, api.Saved{Gen: 1, Classes: 1, Pages: 1, Bytes: 284, Full: true})
	o.unchanged(t, "P17.5: another machine", beside)
}

// TestNumberGivenAgain: the store's environment is gone; then another one has its number.
func TestNumberGivenAgain(t *testing.T) {
	m := newMachine()
	own := do(t, m.k, 0, api.CallSpawn, 4, 2, 20)
	s := opened(t, m.k, 1, 31)
	slot := do(t, m.k, 1, api.CallSpawn, 1, 0, 0)
	saves(t, "P17.1", m.k, s, 1, slot, false, api.Saved{Gen: 1, Bytes: 126, Full: true})
	do(t, m.k, 0, api.CallKill, own)
	before := m.shape()
	refused(t, "P17.1: its environment is gone", m.k, s, 1, slot, false, api.ErrEnv)
	m.unchanged(t, "P17.1", before)
	do(t, m.k, 0, api.CallSpawn, 4, 2, 20)
	slot = do(t, m.k, 1, api.CallSpawn, 1, 0, 0)
	before = m.shape()
	refused(t, "P17.1: another has its number", m.k, s, 1, slot, false, api.ErrArg)
	m.unchanged(t, "P17.1", before)
}

// TestOddNumbers: P1: no number makes it panic, and none that names nothing changes anything.
func TestOddNumbers(t *testing.T) {
	m, s := example(t)
	before := m.shape()
	odd := []int{math.MinInt, math.MinInt + 1, -1 << 40, -49, -2, -1, 0, 1, 3, 15, 16, 47, 48, 49, 64, 1 << 31, 1 << 40, math.MaxInt - 1, math.MaxInt}
	for _, env := range odd {
		for _, slot := range odd {
			want := api.ErrNoCap
			switch {
			case env != 0:
				want = api.ErrArg
			case slot == 0 || slot == 1:
				want = api.ErrKind
			}
			refused(t, "P1", m.k, s, env, slot, slot > 0, want)
			refused(t, "P1", nil, s, env, slot, slot > 0, api.ErrArg)
			refused(t, "P1", m.k, nil, env, slot, slot > 0, api.ErrArg)
			refused(t, "P1", m.k, &store.Store{}, env, slot, slot > 0, api.ErrArg)
		}
	}
	m.unchanged(t, "P17.1", before)
}

// TestBytesOnTheDisk: what lies there is the image of the forest, and a full image leaves nothing claimed of the old chain.
func TestBytesOnTheDisk(t *testing.T) {
	m, s := example(t)
	saves(t, "P17.2", m.k, s, 0, 2, false, api.Saved{Gen: 1, Classes: 1, Pages: 1, Bytes: 284, Full: true})
	want := encoded(t, m.k, 1, true)
	if got := m.d.Medium()[:384]; !bytes.Equal(got, append(want, make([]byte, 100)...)) {
		t.Errorf("P17.2: the image is %x, want %x", got, want)
	}
	if raws, _ := s.Chain(); len(raws) != 1 || !bytes.Equal(raws[0], want) || len(m.d.Pending()) != 0 {
		t.Errorf("P17.2: the chain is %x", raws)
	}
	saves(t, "P17.2", m.k, s, 0, 2, false, api.Saved{Gen: 2, Classes: 1, Bytes: 156})
	raws, _ := s.Chain()
	im, err := image.Decode(raws[1])
	if err != nil || !im.Incr || im.Gen != 2 || im.Prev != 1 || im.PrevIdent != image.Ident(want) || fmt.Sprint(im.Refs) != "[0]" {
		t.Errorf("P17.2: the second image is %+v, %v", im, err)
	}
	saves(t, "P17.2", m.k, s, 0, 2, true, api.Saved{Gen: 3, Classes: 1, Pages: 1, Bytes: 284, Full: true})
	if l := m.k.State().Extents; len(l) != 2 || l[0].Num != 2 || l[1].Num != 31 {
		t.Errorf("P17.2: claimed are %v", l)
	}
}
