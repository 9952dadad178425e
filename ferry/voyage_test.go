package ferry_test

import (
	"bytes"
	"fmt"
	"testing"

	"amber/api"
	"amber/chain"
	"amber/ckpt"
	"amber/disk"
	"amber/ferry"
	"amber/gate"
	"amber/image"
	"amber/restore"
	"amber/store"
	"amber/walk"
)

// Trees of a kernel, checkpointed and folded here, brought over a bad line, restored there.

func request(call int, a ...int) api.Request {
	r := api.Request{Call: call}
	copy(r.A[:], a)
	return r
}

// act makes some call in the name of an environment of the tree; many are refused.
func act(k *gate.Kernel, d *dice, env int) {
	slot, v := d.below(6), d.below(4)
	fill := request(api.NatFill, slot)
	fill.Data = bytes.Repeat(d.bytes(d.of(1, 4, 64, 128)), 128)[:128]
	calls := []api.Request{
		request(api.CallAlloc), request(api.CallAlloc), fill, fill,
		request(api.CallDerive, slot, d.below(16)), request(api.CallGrant, slot, d.below(6), d.below(16)),
		request(api.CallMap, v, slot, d.below(2)), request(api.CallMapIn, slot, v, d.below(6), d.below(2)), request(api.CallUnmap, v),
		request(api.CallSpawn, d.below(6), d.below(3), d.below(2)), request(api.CallStart, slot, d.below(64)), request(api.CallNotify, slot, d.below(9)),
		request(api.CallSetReg, slot, d.below(8), int(d.word())), request(api.CallDrop, slot), request(api.CallKill, slot), request(api.NatClean, -1, 0, slot),
	}
	k.Call(env, calls[d.below(len(calls))])
}

// planted: a store that has a tree of a kernel.
func planted(t *testing.T, d *dice) *store.Store {
	t.Helper()
	k := gate.Boot(disk.New(), 1)
	k.Call(0, request(api.CallSpawn, 30, 8, 6))
	s, code := store.Open(k, 0, 31)
	if code != api.OK {
		t.Fatalf("Open: %d", code)
	}
	for range 1 + d.below(4) {
		for range 30 {
			tree, _ := k.Tree(1)
			act(k, d, tree[d.below(len(tree))])
		}
		if _, code := ckpt.Checkpoint(k, s, 0, 0, d.one(3)); code != api.OK {
			t.Fatalf("Checkpoint: %d", code)
		}
	}
	return s
}

// folded: the forest that a store's chain tells.
func folded(t *testing.T, s *store.Store) api.Forest {
	t.Helper()
	raws, code := s.Chain()
	if code != api.OK {
		t.Fatalf("Chain: %d", code)
	}
	f, code := chain.Load(raws)
	if code != api.OK {
		t.Fatalf("Load: %d", code)
	}
	return f.Forest
}

// carried: what the receiver has behind a bad line with a fair end.
func carried(t *testing.T, what string, d *dice, cargo []byte) []byte {
	t.Helper()
	b := newBad(t, cargo)
	for range d.below(200) {
		b.step(t, what, d)
	}
	b.holds(t, what)
	b.fair(t, what, d)
	got, _ := b.r.Cargo()
	return got
}

// landed: the tree that is restored out of a forest committed on another machine.
func landed(t *testing.T, what string, f api.Forest) api.Forest {
	t.Helper()
	k := gate.Boot(disk.New(), 1)
	s, code := store.Open(k, 0, 31)
	if code != api.OK {
		t.Fatalf("%s: Open: %d", what, code)
	}
	raw, err := image.Encode(imageOf(f))
	if err != nil {
		t.Fatalf("%s: Encode: %v", what, err)
	}
	if code := s.Commit(raw, true); code != api.OK {
		t.Fatalf("%s: Commit: %d", what, code)
	}
	slot, code := restore.Restore(k, s, 0)
	if code != api.OK {
		t.Fatalf("%s: Restore: %d", what, code)
	}
	there, _, code := walk.Read(k, 0, slot)
	if code != api.OK {
		t.Fatalf("%s: Read: %d", what, code)
	}
	return there
}

func TestVoyages(t *testing.T) {
	there, outside, classes := 0, 0, 0
	for seed := range 120 {
		d := dice(seed)
		what := fmt.Sprint("P10: seed ", seed)
		here := folded(t, planted(t, &d))
		if len(here.Outs) > 0 {
			noLoad(t, what, here, api.ErrStaleCap)
			outside++
			continue
		}
		cargo := ferried(t, what, here)
		got := carried(t, what, &d, cargo)
		f, code := ferry.Unload(got)
		if code != api.OK || !alike(f, here) {
			t.Fatalf("%s: Unload: another forest, %d", what, code)
		}
		if tree := landed(t, what, f); !chain.Same(tree, here) || !alike(tree, here) {
			t.Fatalf("%s: the restored tree has the forest %+v, want %+v", what, tree, here)
		}
		there++
		classes += len(here.Pages)
	}
	if there < 60 || classes < 200 || outside < 2 {
		t.Errorf("the dice are loaded: %d trees with %d classes went over, %d had outs", there, classes, outside)
	}
}
