package ckpt_test

import (
	"fmt"
	"reflect"
	"slices"
	"testing"

	"amber/api"
	"amber/chain"
	"amber/ckpt"
	"amber/store"
)

// history: how many checkpoints there were, which of them were asked to be full, and whether the one in flight is.
type history struct {
	saves int
	full  map[int]bool
	last  bool
}

// lived: a machine behind a history, its store, and what its chain says; the tree has gone on since.
func lived(t *testing.T, h history, frames int) (machine, *store.Store, api.Folded) {
	t.Helper()
	m := newMachine()
	s := opened(t, m.k, 0, 31)
	do(t, m.k, 0, api.CallSpawn, 48, 0, 0)
	for range frames {
		do(t, m.k, 1, api.CallAlloc)
	}
	if frames > 0 {
		do(t, m.k, 1, api.CallMap, 0, 0, 1)
	}
	var fold api.Folded
	for i := range h.saves {
		do(t, m.k, 0, api.CallSetReg, 1, 3, i)
		m.k.Store(1, uint32(i), 7)
		if _, code := ckpt.Checkpoint(m.k, s, 0, 1, h.full[i]); code != api.OK {
			t.Fatalf("P17.9: no history: %d", code)
		}
		fold = present(t, m.k, 0, 1, s.Gen())
	}
	do(t, m.k, 0, api.CallSetReg, 1, 3, 99)
	fill(t, m.k, min(frames, 2), byte(h.saves))
	return m, s, fold
}

// found: what the chain of a store that is opened anew says; of none the zero Folded.
func found(t *testing.T, what string, m machine) api.Folded {
	t.Helper()
	s := opened(t, m.k, 0, 31)
	raws, code := s.Chain()
	fold, code2 := chain.Load(raws)
	if code != api.OK || code2 != api.OK && code2 != api.ErrNoImage || fold.Gen != s.Gen() {
		t.Fatalf("P17.9: %s: %d images of generation %d: %d, %d", what, len(raws), s.Gen(), code, code2)
	}
	return fold
}

// keeps: all sets of up to four writes; of more some.
func keeps(writes int) [][]bool {
	if writes > 4 {
		d := dice(writes)
		every := make([]bool, writes)
		for i := range every {
			every[i] = true
		}
		return [][]bool{nil, every, d.flips(writes), d.flips(writes), every[:writes-1]}
	}
	var l [][]bool
	for set := range 1 << writes {
		keep := make([]bool, writes)
		for i := range keep {
			keep[i] = set>>i&1 == 1
		}
		l = append(l, keep)
	}
	return l
}

// outcome: what became of a Checkpoint that was armed: its answer, how many writes waited, whether it was found behind the crash.
type outcome struct {
	code   api.Errno
	writes int
	found  bool
}

// crashed: a Checkpoint behind a history, which goes down at an act; the n-th choice of the writes that wait is kept.
func crashed(t *testing.T, h history, frames, at, n int) outcome {
	t.Helper()
	m, s, before := lived(t, h, frames)
	done := m.d.Acts()
	m.d.Arm(at)
	_, code := ckpt.Checkpoint(m.k, s, 0, 1, h.last)
	o := outcome{code: code, writes: len(m.d.Pending())}
	inFlight := present(t, m.k, 0, 1, h.saves+1)
	keep := keeps(o.writes)[n]
	what := fmt.Sprintf("%+v, %d frames, armed with %d, %v kept", h, frames, at, keep)
	if code != api.OK && code != api.ErrDown || m.d.Acts() != done+at {
		t.Fatalf("P17.9: %s: %d behind %d acts", what, code, m.d.Acts()-done)
	}
	m = m.rebooted(keep)
	fold := found(t, what, m)
	o.found = reflect.DeepEqual(fold, inFlight)
	if !o.found && (code == api.OK || !reflect.DeepEqual(fold, before)) {
		t.Fatalf("P17.9: %s: %d, then %+v, want %+v or %+v", what, code, fold, before, inFlight)
	}
	goesOn(t, what, m.rebooted(nil), fold)
	return o
}

// TestCrashes: at every act of a Checkpoint, with all sets of the writes that wait.
func TestCrashes(t *testing.T) {
	seen := map[outcome]int{}
	everyAct := func(h history, frames int) {
		for at := 0; ; at++ {
			first := crashed(t, h, frames, at, 0)
			seen[first]++
			for n := 1; n < len(keeps(first.writes)); n++ {
				seen[crashed(t, h, frames, at, n)]++
			}
			if first.code == api.OK {
				return
			}
		}
	}
	for _, h := range []history{{}, {last: true}, {saves: 1}, {saves: 1, last: true}} {
		everyAct(h, 30)
	}
	for _, h := range []history{{}, {saves: 1}, {saves: 1, last: true}, {saves: 2}, {saves: 3, full: map[int]bool{2: true}}, {saves: 3, last: true}, {saves: 4}, {saves: 5}, {saves: 7}} {
		everyAct(h, 0)
		everyAct(h, 1)
	}
	for _, o := range []outcome{{api.OK, 0, true}, {api.ErrDown, 1, true}, {api.ErrDown, 1, false}} {
		if seen[o] < 20 {
			t.Errorf("P17.9: %+v only %d times", o, seen[o])
		}
	}
}

// goesOn: opening again tells the same, and the next Checkpoint is done, of another tree.
func goesOn(t *testing.T, what string, m machine, fold api.Folded) {
	t.Helper()
	s := opened(t, m.k, 0, 31)
	if fold.Gen != s.Gen() || fold.Gen > 0 && !reflect.DeepEqual(foldOf(t, what, s), fold) {
		t.Fatalf("P17.9: %s: opened again: Gen %d", what, s.Gen())
	}
	x := &keeper{s: s, home: 31}
	slot := do(t, m.k, 0, api.CallSpawn, 9, 0, 0)
	do(t, m.k, 1, api.CallAlloc)
	if saved, code := x.save(t, what, m.k, slot, false); code != api.OK || saved.Pages != 1 || saved.Gen != fold.Gen+1 {
		t.Fatalf("P17.9: %s: the next one: %+v, %d", what, saved, code)
	}
}

// life: trees live and are checkpointed till the machine goes down; what a new store must then tell, the last that answered OK or the one in flight.
func life(t *testing.T, what string, m machine, d *dice, last api.Folded) []api.Folded {
	t.Helper()
	x := &keeper{s: opened(t, m.k, 0, 31), home: 31}
	plant(t, m.k, d)
	for range 12 {
		live(m.k, d, 10)
		if d.below(4) == 0 {
			m.d.Arm(d.below(40))
		}
		l := trees(m.k, 0)
		if len(l) == 0 {
			break
		}
		slot := d.of(l...)
		_, code := x.save(t, what, m.k, slot, d.below(5) == 0)
		if code == api.ErrDown {
			return []api.Folded{last, present(t, m.k, 0, slot, x.s.Gen()+1)}
		}
		if code == api.OK {
			last = present(t, m.k, 0, slot, x.s.Gen())
		}
	}
	return []api.Folded{last}
}

// TestManyCrashes: lives of trees on one disk, each ended by a crash at some act of a Checkpoint, or between two.
func TestManyCrashes(t *testing.T) {
	var seen [3]int
	for seed := range 25 {
		d := dice(seed + 300)
		m := newMachine()
		var last api.Folded
		for n := range 8 {
			what := fmt.Sprintf("seed %d, life %d", seed, n)
			may := life(t, what, m, &d, last)
			m = m.rebooted(d.flips(60))
			fold := found(t, what, m)
			at := slices.IndexFunc(may, func(x api.Folded) bool { return reflect.DeepEqual(x, fold) })
			if at < 0 {
				t.Fatalf("P17.9: %s: %+v, want one of %+v", what, fold, may)
			}
			seen[len(may)-1+at]++
			last = fold
			m = m.rebooted(nil)
		}
	}
	if slices.Min(seen[:]) < 4 {
		t.Errorf("P17.9: crashes between two, ahead of a commit, behind one: %v", seen)
	}
}
