package replay_test

import (
	"fmt"
	"slices"
	"testing"

	"amber/api"
	"amber/ckpt"
	"amber/gate"
	"amber/replay"
	"amber/restore"
	"amber/store"
	"amber/walk"
)

// Logs that are replayed on trees that are the same: built again, built among others, or restored.

// neighbours: others that make, hold and end things beside the village.
func neighbours(k *gate.Kernel, seed int) func(slot int) {
	d := dice(seed)
	return func(slot int) {
		for range d.below(6) {
			r := request(d.of(api.CallDrop, api.CallKill), d.below(9))
			switch d.below(8) {
			case 0, 1, 2:
				r = request(api.CallAlloc)
			case 3:
				r = request(api.CallSpawn, 1, 0, 1)
			case 4:
				r = request(api.NatClaim, d.of(-1, d.below(9)))
			case 5:
				r = request(api.NatClean, -1, 0, d.below(9))
			}
			if ends := r.Call == api.CallDrop || r.Call == api.CallKill; !ends || r.A[0] != slot {
				k.Call(0, r)
			}
		}
	}
}

// againOn replays a log on a village: every leg goes right, the events are those that were, and the village is then the one that was recorded.
func (v village) againOn(t *testing.T, what string, log []byte, told []api.Event, other village) {
	t.Helper()
	legs, _ := ruleDecode(log)
	events, right, code := replay.Replay(log, other.k, other.root())
	if code != api.OK || right != len(legs) {
		t.Fatalf("%s: Replay: %d of %d legs went right, %d", what, right, len(legs), code)
	}
	if !slices.Equal(withoutSerials(events), withoutSerials(told)) {
		t.Fatalf("%s: Replay tells %+v, want %+v", what, events, told)
	}
	other.is(t, what, v)
}

// TestTheSameAgain: in the same numbers, and in others.
func TestTheSameAgain(t *testing.T) {
	told, moved := 0, 0
	for seed := range 80 {
		x, y, z := newMachine(), newMachine(), newMachine()
		d, e, f := dice(seed), dice(seed), dice(seed)
		others := neighbours(z.k, seed+9)
		v, w, u := found(t, x.k, &d, quiet), found(t, y.k, &e, quiet), found(t, z.k, &f, others)
		u.is(t, "the villages are unlike", v)
		log, events := v.recorded(t, &d, 8)
		v.againOn(t, fmt.Sprint("P21.4: seed ", seed, ", the same numbers"), log, events, w)
		y.looksAs(t, fmt.Sprint("P21.4: seed ", seed), x.shape())
		others(u.slot)
		again, _ := ruleDecode(log)
		half := len(logOf(again[:4]...))
		if _, n, code := replay.Replay(log[:half], z.k, u.root()); n != 4 || code != api.OK {
			t.Fatalf("P21.4: seed %d: the first legs: %d, %d", seed, n, code)
		}
		others(u.slot)
		later, _, code := replay.Replay(log[half:], z.k, u.root())
		if from := len(events) - len(later); code != api.OK || from < 0 || !slices.Equal(withoutSerials(later), withoutSerials(events[from:])) {
			t.Fatalf("P21.4: seed %d: the later legs: %d", seed, code)
		}
		u.is(t, fmt.Sprint("P21.4: seed ", seed, ", other numbers"), v)
		told += len(events)
		if !slices.Equal(v.tree(), u.tree()) {
			moved++
		}
	}
	if told < 3000 || moved < 20 {
		t.Errorf("only %d events were told, %d villages had other numbers", told, moved)
	}
}

func opened(t *testing.T, k *gate.Kernel) *store.Store {
	t.Helper()
	s, code := store.Open(k, 0, 31)
	if code != api.OK {
		t.Fatalf("Open: %d", code)
	}
	return s
}

// woken: the tree that a store has, restored and thawed.
func woken(t *testing.T, what string, k *gate.Kernel, s *store.Store) village {
	t.Helper()
	slot, code := restore.Restore(k, s, 0)
	if code != api.OK {
		t.Fatalf("%s: Restore: %d", what, code)
	}
	if _, code := walk.Freeze(k, 0, slot, false); code != api.OK {
		t.Fatalf("%s: Freeze: %d", what, code)
	}
	return village{k, slot}
}

// saved lays a village into a store, whole or as what is new; whether it names nothing outside.
func (v village) saved(t *testing.T, d *dice, s *store.Store) bool {
	t.Helper()
	for range d.below(3) {
		replay.Record(nil, v.k, v.root(), d.picks(d.below(4)), d.answers())
		v.wake(d)
		if _, code := ckpt.Checkpoint(v.k, s, 0, v.slot, d.one(2)); code != api.OK {
			t.Fatalf("Checkpoint: %d", code)
		}
	}
	if len(v.read(t).Outs) > 0 {
		return false
	}
	if _, code := ckpt.Checkpoint(v.k, s, 0, v.slot, false); code != api.OK {
		t.Fatalf("Checkpoint: %d", code)
	}
	return true
}

// TestACheckpointAndALog: the tree of a checkpoint, restored beside the original, on another machine, in the original's place and behind a crash, and the log behind it are the present.
func TestACheckpointAndALog(t *testing.T) {
	told, done := 0, 0
	for seed := range 60 {
		d := dice(seed)
		m := newMachine()
		s := opened(t, m.k)
		v := found(t, m.k, &d, quiet)
		if !v.saved(t, &d, s) {
			continue
		}
		o := m.copied(t)
		log, events := v.recorded(t, &d, 8)
		what := fmt.Sprint("P21.5: seed ", seed)
		here := woken(t, what, m.k, s)
		v.againOn(t, what+", beside it", log, events, here)
		there := woken(t, what, o.k, opened(t, o.k))
		v.againOn(t, what+", on another machine", log, events, there)
		do(t, m.k, 0, api.CallKill, here.slot)
		do(t, m.k, 0, api.CallKill, v.slot)
		there.againOn(t, what+", in its place", log, events, woken(t, what, m.k, s))
		c := m.rebooted()
		there.againOn(t, what+", behind a crash", log, events, woken(t, what, c.k, opened(t, c.k)))
		told, done = told+len(events), done+1
	}
	if told < 1500 || done < 30 {
		t.Errorf("P21.5: only %d events of %d villages were told", told, done)
	}
}

// TestAnotherPastParts: a checkpoint and a log that is not its own.
func TestAnotherPastParts(t *testing.T) {
	m := newMachine()
	s := opened(t, m.k)
	slot := do(t, m.k, 0, api.CallSpawn, 4, 0, 0)
	do(t, m.k, 1, api.CallAlloc)
	fill(t, m.k, 1, 0, counts)
	do(t, m.k, 1, api.CallMap, 0, 0, 1)
	do(t, m.k, 0, api.CallStart, slot, 0)
	if _, code := ckpt.Checkpoint(m.k, s, 0, slot, true); code != api.OK {
		t.Fatalf("Checkpoint: %d", code)
	}
	one, first := round(1)
	two, second := round(2)
	replays(t, "P21.3: from the checkpoint on", logOf(one, two), m.k, 1, 2, api.OK, slices.Concat(first, second)...)
	v := woken(t, "P21.5", m.k, s)
	replays(t, "P21.6: a log that begins later", logOf(two), m.k, v.root(), 0, api.ErrDiverge, first...)
	w := woken(t, "P21.5", m.k, s)
	replays(t, "P21.5: its own log", logOf(one, two), m.k, w.root(), 2, api.OK, slices.Concat(first, second)...)
	w.is(t, "P21.5", village{m.k, slot})
}

// A root that is frozen, or lies below one that is, does nothing: so the log parts.
func TestFrozenParts(t *testing.T) {
	log := twoLegs(t, house(t, emits))
	m := house(t, emits)
	do(t, m.k, 0, api.NatFreeze, 0, 0, 1)
	before := m.shape()
	replays(t, "P21.6: frozen", log, m.k, 1, 0, api.ErrDiverge, none())
	m.looksAs(t, "P21.6: frozen", before)
}
