package audit_test

import (
	"fmt"
	"slices"
	"testing"

	"amber/api"
	"amber/audit"
	"amber/gate"
)

// What the rules say of kernels: P19.2 to P19.5.

// TestTheKernelIsSound: behind every act, refused or not.
func TestTheKernelIsSound(t *testing.T) {
	records := [5]int{}
	for seed := range 120 {
		d := dice(seed)
		w := newWorld(1 + d.of(0, d.below(9), 1<<60))
		if d.one(2) {
			w.plant(&d)
		}
		for n := range 150 {
			what := w.act(&d)
			s := w.State()
			if told := audit.Check(s); len(told) > 0 {
				t.Fatalf("P19.2: seed %d, act %d: %s: Check tells %v of %+v", seed, n, what, told, s)
			}
			for _, e := range s.Envs {
				q, left := e.Env.Quota, e.Env.Left
				want := api.Quota{Frames: q.Frames - left.Frames, Envs: q.Envs - left.Envs, Extents: q.Extents - left.Extents}
				if got, code := audit.Paid(s, e.Num); got != want || code != api.OK {
					t.Fatalf("P19.3: seed %d, act %d: %s: Paid(%d) = %v, %d, want %v", seed, n, what, e.Num, got, code, want)
				}
			}
			for i, l := range []int{len(s.Envs), len(s.Caps), len(s.Maps), len(s.Frames), len(s.Extents)} {
				records[i] = max(records[i], l)
			}
		}
	}
	for i, least := range []int{10, 60, 12, 25, 8} {
		if records[i] < least {
			t.Errorf("P19.2: no state had more than %v records", records)
		}
	}
}

// giver: a capability, more often one that others come from.
func (d *dice) giver(s api.State) api.CapState {
	c := s.Caps[d.below(len(s.Caps))]
	for range d.below(2) {
		if up, there := capModel(s, c.From.Env, c.From.Slot); there {
			c = up
		}
	}
	return c
}

// onGivers shows capabilities of kernels that much was done with, one behind the other, each with the state as it is then.
func onGivers(t *testing.T, show func(what string, k *gate.Kernel, a api.State, x api.CapState)) {
	t.Helper()
	for seed := range 400 {
		d := dice(seed)
		w := grown(t, &d, 80)
		for range 4 {
			if a := w.State(); len(a.Caps) > 0 {
				x := d.giver(a)
				show(fmt.Sprintf("seed %d: %+v", seed, x), w.Kernel, a, x)
			}
		}
	}
}

// TestRevoke: just what Below told goes.
func TestRevoke(t *testing.T) {
	went, deep := 0, 0
	onGivers(t, func(what string, k *gate.Kernel, a api.State, x api.CapState) {
		gone, code := audit.Below(a, x.Held.Env, x.Held.Slot)
		if code != api.OK {
			t.Fatalf("P19.3: %s: Below: %d", what, code)
		}
		do(t, k, x.Held.Env, api.CallRevoke, x.Held.Slot)
		want := slices.DeleteFunc(slices.Clone(a.Caps), func(c api.CapState) bool { return slices.Contains(gone, placeOf(c)) })
		if b := k.State(); len(a.Caps)-len(b.Caps) != len(gone) || !slices.Equal(b.Caps, want) {
			t.Fatalf("P19.3: %s: behind its Revoke, below which lay %v: %+v, want %+v", what, gone, b.Caps, want)
		}
		went += len(gone)
		deep += min(len(gone)/3, 1)
	})
	if went < 500 || deep < 40 {
		t.Errorf("P19.3: only %d capabilities were revoked, only %d times some", went, deep)
	}
}

// TestDrop: just the one goes, and its children have what it had.
func TestDrop(t *testing.T) {
	orphans, heirs := 0, 0
	onGivers(t, func(what string, k *gate.Kernel, a api.State, x api.CapState) {
		do(t, k, x.Held.Env, api.CallDrop, x.Held.Slot)
		want := slices.DeleteFunc(slices.Clone(a.Caps), func(c api.CapState) bool { return c == x })
		for i := range want {
			if want[i].From == placeOf(x) {
				want[i].From = x.From
				if x.From == (api.Place{Env: -1, Slot: -1}) {
					orphans++
				} else {
					heirs++
				}
			}
		}
		b := k.State()
		if !slices.Equal(b.Caps, want) {
			t.Fatalf("P19.3: %s: behind its Drop: %+v, want %+v", what, b.Caps, want)
		}
		if l, code := audit.Below(b, x.Held.Env, x.Held.Slot); len(l) != 0 || code != api.ErrNoCap {
			t.Fatalf("P19.3: %s: behind its Drop Below tells %v, %d", what, l, code)
		}
	})
	if orphans < 30 || heirs < 30 {
		t.Errorf("P19.3: only %d children had no parent then, only %d another", orphans, heirs)
	}
}

// begotten: the first row of b's Reach that a's connectivity does not account for.
func begotten(t *testing.T, a, b api.State, root int) (api.Cap, bool) {
	t.Helper()
	before, code := audit.Reach(a, root)
	if code != api.OK {
		t.Fatalf("Reach(%d): %d", root, code)
	}
	after, code := audit.Reach(b, root)
	if code != api.OK {
		t.Fatalf("Reach(%d): %d", root, code)
	}
	for _, row := range after {
		known := slices.ContainsFunc(before, func(old api.Cap) bool { return sameThing(old, row) && row.Rights&^old.Rights == 0 })
		if row.Serial < a.Serial && !known {
			return row, true
		}
	}
	return api.Cap{}, false
}

// guestAct: a guests' call in the name of one of the tree, or steps of the guests there.
func (w *world) guestAct(d *dice, root int) (string, bool) {
	s := w.State()
	env := d.of(treeOf(s, root)...)
	switch {
	case d.one(4):
		return w.goOn(d, d.of(root, env)), true
	case d.one(8):
		w.Store(env, uint32(d.below(128)), uint32(d.below(9)))
		return "Store", true
	}
	r := d.request(s, env, api.GuestCalls)
	call := w.Call
	if d.one(2) {
		call = w.Guest
	}
	code := call(env, r).Code
	return fmt.Sprintf("%d: %s %v: %d", env, gate.Name(r.Call), r.A, code), code == api.OK
}

// TestOnlyConnectivityBegetsConnectivity: P19.4, in kernels where everything hangs together.
func TestOnlyConnectivityBegetsConnectivity(t *testing.T) {
	done, fresh, old := 0, 0, 0
	for seed := range 300 {
		d := dice(seed)
		w := grown(t, &d, 60)
		root := d.env(w.State())
		for _, env := range treeOf(w.State(), root) {
			if d.one(2) {
				w.settle(&d, env)
			}
		}
		a := w.State()
		for n := range 40 {
			what, ok := w.guestAct(&d, root)
			b := w.State()
			if row, is := begotten(t, a, b, root); is {
				t.Fatalf("P19.4: seed %d, act %d: %s: the tree of %d reaches %+v", seed, n, what, root, row)
			}
			if ok {
				done++
			}
		}
		rows, _ := audit.Reach(w.State(), root)
		for _, row := range rows {
			if row.Serial >= a.Serial {
				fresh++
			} else {
				old++
			}
		}
	}
	if done < 4000 || fresh < 300 || old < 500 {
		t.Errorf("P19.4: only %d acts, %d fresh rows, %d old ones", done, fresh, old)
	}
}

// TestConnectivityFromOutside: what P19.4 leaves out does beget connectivity, and Reach tells it.
func TestConnectivityFromOutside(t *testing.T) {
	k := example(t)
	do(t, k, 0, api.CallAlloc)
	a := k.State()
	do(t, k, 0, api.CallGrant, 3, 2, 1)
	if row, is := begotten(t, a, k.State(), 1); !is || row != (api.Cap{Kind: 1, Obj: 1, Serial: 4, Rights: 1}) {
		t.Errorf("P19.4: behind a grant from outside the tree of 1 reaches %+v, %v", row, is)
	}
	k = example(t)
	a = k.State()
	do(t, k, 0, api.CallGrant, 0, 2, 4)
	if row, is := begotten(t, a, k.State(), 1); !is || row.Rights != 7 {
		t.Errorf("P19.4: behind a grant of more rights the tree of 1 reaches %+v, %v", row, is)
	}
}

// closed: as P19.5 asks for it.
func closed(s api.State, root int) bool {
	tree := treeOf(s, root)
	inside := func(c api.CapState) bool { return slices.Contains(tree, c.Held.Env) }
	for _, c := range s.Caps {
		named := c.Held.Cap.Kind == api.KindEnv && slices.Contains(tree, c.Held.Cap.Obj)
		switch {
		case inside(c) && c.Held.Cap.Kind == api.KindEnv && !named:
			return false
		case inside(c):
			continue
		case named && c.Held.Cap.Obj != root:
			return false
		}
		shared := func(x api.CapState) bool { return inside(x) && sameThing(x.Held.Cap, c.Held.Cap) }
		if slices.ContainsFunc(s.Caps, shared) {
			return false
		}
	}
	return true
}

// insideAct: any call in the name of one of the tree, or what its guests do.
func (w *world) insideAct(d *dice, root int) (string, bool) {
	s := w.State()
	env := d.of(treeOf(s, root)...)
	switch d.below(10) {
	case 0:
		return w.guestAct(d, root)
	case 1:
		w.settle(d, env)
		return "settle", true
	case 2:
		w.Store(env, uint32(d.below(128)), uint32(d.below(9)))
		return "Store", true
	case 3:
		code := w.Call(env, request(api.CallKill, d.slot(s, env, api.KindEnv))).Code
		return fmt.Sprintf("%d: kill: %d", env, code), code == api.OK
	}
	r := d.request(s, env, api.NatEnd)
	code := w.Call(env, r).Code
	return fmt.Sprintf("%d: %s %v: %d", env, gate.Name(r.Call), r.A, code), code == api.OK
}

// estates: a kernel where trees lie beside one another, each grown by itself, and where environment 0 has its own.
func estates(t *testing.T, d *dice) (*world, []int) {
	t.Helper()
	w := newWorld(1 + d.below(5))
	var roots []int
	for n := 1; n <= 3; n++ {
		slot := do(t, w.Kernel, 0, api.CallSpawn, 15, 3, 6)
		roots = append(roots, n)
		if d.one(3) {
			do(t, w.Kernel, 0, api.CallDrop, slot)
		}
	}
	for range 60 {
		root := d.of(roots...)
		w.insideAct(d, root)
	}
	do(t, w.Kernel, 0, api.CallAlloc)
	do(t, w.Kernel, 0, api.NatClaim, -1)
	do(t, w.Kernel, 0, api.CallMap, 3, do(t, w.Kernel, 0, api.CallAlloc), 1)
	if d.one(4) {
		// Now and then one more hand outside, or inside: then the tree may not be closed any more.
		w.Call(0, request(api.NatCopy, -1, d.below(8), d.below(6), d.below(8), -1, 15))
	}
	return w, roots
}

// TestWhatIsClosedStaysClosed: P19.5.
func TestWhatIsClosedStaysClosed(t *testing.T) {
	done, gone, open := 0, 0, 0
	for seed := range 250 {
		d := dice(seed)
		w, roots := estates(t, &d)
		root := d.of(roots...)
		a := w.State()
		if !closed(a, root) {
			open++
			continue
		}
		for n := range 50 {
			what, ok := w.insideAct(&d, root)
			b := w.State()
			var want []api.Broken
			for _, num := range treeOf(a, root) {
				if !thereModel(b, num) {
					want = append(want, api.Broken{Rule: 1, A: num, B: -1})
				}
			}
			if got := audit.Apart(a, b, []int{root}); !slices.Equal(got, want) {
				t.Fatalf("P19.5: seed %d, act %d: %s: Apart tells %v of what lies outside the tree of %d, want %v", seed, n, what, got, root, want)
			}
			if ok {
				done++
			}
			gone += len(want)
		}
	}
	if done < 4000 || gone < 200 || open < 10 || open > 100 {
		t.Errorf("P19.5: only %d acts were done, %d times one was gone, %d trees were not closed", done, gone, open)
	}
}

// TestWhatIsOpen: where a tree is not closed, what is done in it may be seen outside, and Apart tells it.
func TestWhatIsOpen(t *testing.T) {
	k := example(t)
	do(t, k, 1, api.CallMap, 2, 0, 1)
	a := k.State()
	if closed(a, 1) {
		t.Fatal("the frame is shared")
	}
	k.Store(1, 64, 9)
	apart(t, "a shared frame", a, k.State(), []int{1}, rules(4, 0, -1))
	k = example(t)
	do(t, k, 0, api.NatSelf, -1, 0, 1, -1, 15)
	a = k.State()
	if closed(a, 1) {
		t.Fatal("it reaches environment 0")
	}
	do(t, k, 1, api.NatFreeze, 1, 0, 1)
	apart(t, "an environment outside", a, k.State(), []int{1}, rules(1, 0, -1))
	k = example(t)
	do(t, k, 0, api.CallRevoke, 0)
	do(t, k, 1, api.CallSpawn, 0, 0, 0)
	do(t, k, 0, api.NatSelf, -1, 2, 0, 9, 15)
	a = k.State()
	if closed(a, 1) {
		t.Fatal("environment 0 holds one properly below")
	}
	do(t, k, 1, api.CallKill, 0)
	apart(t, "a capability on one below", a, k.State(), []int{1}, rules(1, 2, -1, 2, 0, 9))
}
