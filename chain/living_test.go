package chain_test

import (
	"slices"
	"testing"

	"amber/api"
	"amber/chain"
	"amber/disk"
	"amber/gate"
	"amber/image"
	"amber/walk"
)

// Trees of a kernel, read by walk from time to time, while their environments go on.

func request(call int, a ...int) api.Request {
	r := api.Request{Call: call}
	copy(r.A[:], a)
	return r
}

// planted: a kernel in which environment 0's slot 0 names a tree, and its slots 1 to 3 things outside it.
func planted(t *testing.T) *gate.Kernel {
	t.Helper()
	k := gate.Boot(disk.New(), 1)
	for _, r := range []api.Request{request(api.CallSpawn, 40, 8, 8), request(api.CallAlloc), request(api.NatClaim, -1), request(api.CallSpawn, 1, 0, 0)} {
		if reply := k.Call(0, r); reply.Code != api.OK {
			t.Fatalf("%s: %d", gate.Name(r.Call), reply.Code)
		}
	}
	return k
}

// live makes calls in the names of the tree's environments, most of which may well be refused.
func live(k *gate.Kernel, d *dice, root int) {
	for range 30 {
		tree, _ := k.Tree(root)
		env := tree[d.below(len(tree))]
		slot, other, v := d.below(6), d.below(6), d.below(8)
		switch d.below(14) {
		case 0, 1:
			k.Call(env, request(api.CallAlloc))
		case 2:
			k.Call(env, request(api.CallSpawn, 4, 1, 1))
		case 3, 4:
			k.Call(env, request(api.CallGrant, slot, other, d.below(16)))
		case 5:
			k.Call(env, request(api.CallDerive, slot, d.below(16)))
		case 6:
			k.Call(env, request(d.of(api.CallDrop, api.CallRevoke, api.CallKill), slot))
		case 7, 8:
			k.Call(env, request(api.CallMap, v, slot, 1))
		case 9:
			k.Call(0, request(api.NatPlace, 1+d.below(3), 0, d.below(len(tree)), -1, d.below(8)))
		case 10:
			k.Call(env, request(api.CallNotify, slot, 1+d.below(9)))
		default:
			k.Store(env, uint32(32*v+d.below(32)), d.word())
		}
	}
}

// read cleans the tree and reads it.
func read(t *testing.T, k *gate.Kernel) (api.Forest, []api.Key) {
	t.Helper()
	if _, code := walk.Clean(k, 0, 0); code != api.OK {
		t.Fatalf("Clean: %d", code)
	}
	f, keys, code := walk.Read(k, 0, 0)
	if code != api.OK {
		t.Fatalf("Read: %d", code)
	}
	return f, keys
}

// TestLivingTrees: the images of a tree that goes on fold to what the tree was when the last was made, and have just what is new.
func TestLivingTrees(t *testing.T) {
	classes, written, outs := 0, 0, 0
	for seed := range 60 {
		d := dice(seed)
		k := planted(t)
		live(k, &d, 1)
		links := forged(t, 5, 1+d.below(100), func() (api.Forest, []api.Key) {
			live(k, &d, 1)
			dirty, _ := walk.Dirty(k, 0, 0)
			f, keys := read(t, k)
			classes, outs = classes+len(keys), outs+len(f.Outs)
			for _, is := range dirty {
				if is {
					written++
				}
			}
			return f, keys
		})
		for i, l := range links {
			fold, code := chain.Load(rawsOf(links[:i+1]))
			if code != api.OK || !alikeFolds(fold, l.fold) || !chain.Same(fold.Forest, l.fold.Forest) {
				t.Fatalf("P15.2: seed %d: image %d folds to %+v, %d, want %+v", seed, i, fold, code, l.fold)
			}
			if c, code := chain.Canon(l.fold.Forest); code != api.OK || !alike(c, l.fold.Forest) {
				t.Fatalf("P15.5: seed %d: Canon of forest %d: %+v, %d", seed, i, c, code)
			}
			for class, ref := range l.im.Refs {
				if i > 0 && (ref == -1) == slices.Contains(links[i-1].fold.Keys, l.im.Keys[class]) {
					t.Fatalf("P15.3: seed %d: image %d: class %d has Ref %d", seed, i, class, ref)
				}
			}
		}
	}
	if classes < 1000 || written < 300 || written > classes*3/4 || outs < 200 {
		t.Errorf("P15.2: %d classes, of which %d were dirty, %d outs", classes, written, outs)
	}
}

// TestNothingWasWritten: behind an image of a tree that rests, the next has no page.
func TestNothingWasWritten(t *testing.T) {
	d := dice(1)
	k := planted(t)
	live(k, &d, 1)
	live(k, &d, 1)
	f, keys := read(t, k)
	full, code := chain.Full(f, keys, 1)
	raw := encoded(t, full)
	again, sameKeys := read(t, k)
	next, code2 := chain.Next(api.Folded{Forest: f, Keys: keys, Gen: 1}, image.Ident(raw), again, sameKeys)
	if code != api.OK || code2 != api.OK || len(keys) < 3 || len(next.Forest.Pages) != 0 {
		t.Fatalf("P15.3: %d, %d, %d classes, %d pages", code, code2, len(keys), len(next.Forest.Pages))
	}
	fold, code := chain.Load([][]byte{raw, encoded(t, next)})
	if code != api.OK || !alike(fold.Forest, f) || fold.Gen != 2 {
		t.Errorf("P15.2: %+v, %d", fold, code)
	}
}
