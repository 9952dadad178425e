package ckpt_test

import (
	"fmt"
	"reflect"
	"slices"
	"testing"

	"amber/api"
	"amber/chain"
	"amber/ckpt"
	"amber/gate"
	"amber/image"
	"amber/store"
	"amber/walk"
)

// stripped: a state without all that a Checkpoint may change: marks and dirty bits of the frames inside a tree, the next serial, the store's extents and slots, and what the caller has left of extents.
func stripped(s api.State, env int, inside, extents []int) api.State {
	s.Serial = 0
	for i, f := range s.Frames {
		if slices.Contains(inside, f.Num) {
			s.Frames[i].Frame.Dirty, s.Frames[i].Frame.Mark = false, 0
		}
	}
	s.Caps = slices.DeleteFunc(s.Caps, func(c api.CapState) bool {
		return c.Held.Env == env && c.Held.Cap.Kind == api.KindExtent && slices.Contains(extents, c.Held.Cap.Obj)
	})
	s.Extents = slices.DeleteFunc(s.Extents, func(x api.ExtState) bool { return slices.Contains(extents, x.Num) })
	for i, e := range s.Envs {
		if e.Num == env {
			s.Envs[i].Env.Left.Extents = 0
		}
	}
	return s
}

// insideFrames: the frames that somebody in the tree owns.
func insideFrames(k *gate.Kernel, env, slot int) []int {
	tree, _ := k.Tree(envAt(k, env, slot))
	var l []int
	for _, c := range k.State().Caps {
		if h := c.Held; slices.Contains(tree, h.Env) && h.Cap.Kind == api.KindFrame && h.Cap.Rights >= api.Own {
			l = append(l, h.Cap.Obj)
		}
	}
	return l
}

// runs: which environments run.
func runs(k *gate.Kernel) (l [api.MaxEnvs]bool) {
	for env := range l {
		l[env] = k.Runs(env)
	}
	return l
}

// keeper: a store of environment env's, its home, and the tree and keys of the last Checkpoint into it.
type keeper struct {
	s         *store.Store
	env, home int
	root      int // the serial of the tree's root; 0: nothing is known
	keys      []api.Key
}

func (x *keeper) extents() []int { return append(slices.Concat(x.s.Extents()...), x.home) }

// save makes a Checkpoint and holds it against P17.3 to P17.7.
func (x *keeper) save(t *testing.T, what string, k *gate.Kernel, slot int, full bool) (api.Saved, api.Errno) {
	t.Helper()
	inside := insideFrames(k, x.env, slot)
	before := stripped(k.State(), x.env, inside, x.extents())
	ahead, ran, told := present(t, k, x.env, slot, 0), runs(k), storeTells(x.s)
	dirty, _ := walk.Dirty(k, x.env, slot)
	base := x.base(full)
	saved, code := ckpt.Checkpoint(k, x.s, x.env, slot, full)
	behind := present(t, k, x.env, slot, x.s.Gen())
	if !reflect.DeepEqual(behind.Forest, ahead.Forest) || runs(k) != ran {
		t.Fatalf("P17.5: %s: the forest is %+v, and was %+v; what runs is %v, and was %v", what, behind.Forest, ahead.Forest, runs(k), ran)
	}
	if after := stripped(k.State(), x.env, inside, x.extents()); !reflect.DeepEqual(after, before) {
		t.Fatalf("P17.5: %s (%d): the state is %+v, and was %+v", what, code, after, before)
	}
	for class, key := range behind.Keys {
		if was := ahead.Keys[class]; key.Mark < 1 || key.Serial != was.Serial || (key == was) == dirty[class] {
			t.Fatalf("P17.3: %s: the key of class %d is %v, and was %v, dirty %v", what, class, key, was, dirty[class])
		}
	}
	if code != api.OK {
		if now := storeTells(x.s); saved != (api.Saved{}) || code != api.ErrDown && now != told {
			t.Fatalf("P17.8: %s: %+v, %d: the store tells %s, and told %s", what, saved, code, now, told)
		}
		return saved, code
	}
	im := x.lookAtImage(t, what, saved, behind, base)
	root := k.SerialOf(x.env, slot)
	for class, key := range behind.Keys {
		untouched := root == x.root && !dirty[class] && slices.Contains(x.keys, key)
		if untouched && im.Incr && im.Refs[class] == -1 {
			t.Fatalf("P17.7: %s: nobody touched class %d since %v: %+v", what, class, x.keys, im)
		}
	}
	x.root, x.keys = root, behind.Keys
	return saved, code
}

// base: what the next image should be built upon; nil, if it should be a full one.
func (x *keeper) base(full bool) *api.Folded {
	if full || x.s.Gen() == 0 || len(x.s.Extents()) == 5 {
		return nil
	}
	raws, _ := x.s.Chain()
	fold, code := chain.Load(raws)
	if code != api.OK || fold.Gen != x.s.Gen() {
		return nil
	}
	return &fold
}

// lookAtImage: the last image holds what is new, the chain folds to the present tree, and what was told is so; that image.
func (x *keeper) lookAtImage(t *testing.T, what string, saved api.Saved, now api.Folded, base *api.Folded) api.Image {
	t.Helper()
	fold := foldOf(t, "P17.6: "+what, x.s)
	if !reflect.DeepEqual(fold, now) {
		t.Fatalf("P17.6: %s: the chain tells %+v, want %+v", what, fold, now)
	}
	raws, _ := x.s.Chain()
	last := raws[len(raws)-1]
	im, err := image.Decode(last)
	want := api.Saved{Gen: x.s.Gen(), Classes: len(now.Keys), Bytes: len(last), Full: base == nil}
	for class, key := range now.Keys {
		isNew := base == nil || !slices.Contains(base.Keys, key)
		if isNew {
			want.Pages++
		}
		if err != nil || (im.Refs[class] == -1) != isNew {
			t.Fatalf("P17.7: %s: %v: class %d of %+v, new: %v", what, err, class, im, isNew)
		}
	}
	if saved != want || im.Incr == want.Full || len(im.Forest.Pages) != want.Pages || (len(raws) == 1) != want.Full {
		t.Fatalf("P17.4: %s: %+v, want %+v; %d images, the last %+v", what, saved, want, len(raws), im)
	}
	return im
}

// TestLivingTrees: trees live, are checkpointed in turns into one store or another, and the machine is booted again and again.
func TestLivingTrees(t *testing.T) {
	var seen, full, pages, classes, outs, refusals int
	for seed := range 40 {
		d := dice(seed)
		m := newMachine()
		for life := range 3 {
			stores := []*keeper{{s: opened(t, m.k, 0, 31), home: 31}, {s: opened(t, m.k, 0, 30), home: 30}}
			plant(t, m.k, &d)
			for round := range 14 {
				live(m.k, &d, d.below(12))
				l := trees(m.k, 0)
				if len(l) == 0 {
					break
				}
				slot, x := d.of(l...), stores[d.below(5)/4]
				if d.below(3) > 0 {
					slot = l[0]
				}
				what := fmt.Sprintf("seed %d, life %d, round %d, slot %d", seed, life, round, slot)
				saved, code := x.save(t, what, m.k, slot, d.below(6) == 0)
				f, _, _ := walk.Read(m.k, 0, slot)
				seen, pages, classes, outs = seen+1, pages+saved.Pages, classes+saved.Classes, outs+len(f.Outs)
				if saved.Full {
					full++
				}
				if code != api.OK {
					refusals++
				}
			}
			m = m.rebooted(d.flips(40))
		}
	}
	if seen < 1500 || full < seen/5 || full > seen/2 || pages > classes*3/4 || pages < classes/4 || outs < seen || refusals > seen/10 {
		t.Errorf("P17.6: %d checkpoints, %d full, %d refused; %d pages of %d classes, %d outs", seen, full, refusals, pages, classes, outs)
	}
}

// TestOverlappingTrees: a tree, one within it, and another that shares a frame with both, in turns in one store.
func TestOverlappingTrees(t *testing.T) {
	m := newMachine()
	k := m.k
	x := &keeper{s: opened(t, k, 0, 31), home: 31}
	a := do(t, k, 0, api.CallSpawn, 20, 4, 0)
	b := do(t, k, 0, api.CallSpawn, 8, 0, 0)
	do(t, k, 0, api.NatNew, a, 0, 8, 0, 0)
	within := do(t, k, 0, api.NatSelf, -1, 2, 0, -1, 3)
	shared := do(t, k, 0, api.CallAlloc)
	for _, to := range []int{a, b, within} {
		do(t, k, 0, api.CallGrant, shared, to, 15)
	}
	for env := 1; env <= 3; env++ {
		do(t, k, env, api.CallAlloc)
		do(t, k, env, api.CallMap, 0, 0, 1)
		do(t, k, env, api.CallMap, 1, 1, 1)
	}
	steps := []struct {
		slot, env      int // env: who writes ahead of it, if not 0
		addr           uint32
		classes, pages int
	}{
		{a, 0, 0, 3, 3},      // the full one: shared, a's own, the inner one's own
		{within, 0, 0, 2, 0}, // the tree before holds both
		{a, 0, 0, 3, 1},      // the inner tree's image has not a's own
		{a, 3, 32, 3, 1},     // the inner one writes its own
		{a, 2, 32, 3, 0},     // another tree's own is none of it
		{a, 0, 0, 3, 3},      // a full one: the chain was full
		{b, 0, 0, 2, 1},      // another tree: only what is shared is known
		{b, 1, 0, 2, 1},      // what is shared is written, by the first
		{a, 0, 0, 3, 2},      // and is known to the first now
		{a, 1, 32, 3, 1},     // its own
	}
	for i, step := range steps {
		if step.env > 0 {
			stored(t, k, step.env, step.addr, uint32(i))
		}
		saved, code := x.save(t, fmt.Sprint("step ", i), k, step.slot, false)
		if code != api.OK || saved.Classes != step.classes || saved.Pages != step.pages {
			t.Errorf("P17.7: step %d: %+v, %d", i, saved, code)
		}
	}
}

// TestWhatIsNew: what makes a page stand in an incremental image, and what does not. The tree has two frames, mapped as its pages 0 and 1.
func TestWhatIsNew(t *testing.T) {
	type act func(t *testing.T, k *gate.Kernel)
	call := func(env, n int, a ...int) act {
		return func(t *testing.T, k *gate.Kernel) { t.Helper(); do(t, k, env, n, a...) }
	}
	word := func(addr, v uint32) act {
		return func(t *testing.T, k *gate.Kernel) { t.Helper(); stored(t, k, 1, addr, v) }
	}
	for _, c := range []struct {
		what           string
		classes, pages int
		acts           []act
	}{
		{"nothing", 2, 0, nil},
		{"a word", 2, 1, []act{word(32, 5)}},
		{"a word that was there", 2, 1, []act{word(32, 0)}},
		{"words in both", 2, 2, []act{word(31, 5), word(63, 5)}},
		{"two words in one", 2, 1, []act{word(0, 5), word(31, 5)}},
		{"a word read", 2, 0, []act{func(t *testing.T, k *gate.Kernel) { k.Load(1, 32) }}},
		{"a clean frame cleaned", 2, 0, []act{call(0, api.NatClean, 2, 0, 1)}},
		{"a dirty frame cleaned", 2, 1, []act{word(0, 6), call(0, api.NatClean, 2, 0, 0)}},
		{"registers, states, bits", 2, 0, []act{call(0, api.CallSetReg, 2, 3, 9), call(0, api.CallStart, 2, 7), call(0, api.CallNotify, 2, 9)}},
		{"pages mapped and unmapped", 2, 0, []act{call(1, api.CallUnmap, 0), call(1, api.CallMap, 7, 1, 1)}},
		{"a copy", 2, 0, []act{call(1, api.CallDerive, 0, 15)}},
		{"a copy in the place of the first", 2, 0, []act{call(1, api.CallDerive, 0, 15), call(1, api.CallDrop, 0)}},
		{"a frame lent", 2, 0, []act{call(0, api.CallGrant, 1, 2, 7)}},
		{"a frame given", 3, 1, []act{call(0, api.CallGrant, 1, 2, 15)}},
		{"a frame made", 3, 1, []act{call(1, api.CallAlloc)}},
		{"a frame gone", 1, 0, []act{call(1, api.CallDrop, 0)}},
		{"a frame gone, another in its place", 2, 1, []act{call(1, api.CallDrop, 0), call(1, api.CallAlloc)}},
		{"a child that shares", 2, 0, []act{call(1, api.CallSpawn, 2, 0, 0), call(1, api.CallGrant, 0, 2, 3)}},
		{"a child with a frame of its own", 3, 1, []act{call(1, api.CallSpawn, 2, 0, 0), call(2, api.CallAlloc)}},
	} {
		m, s := example(t)
		do(t, m.k, 1, api.CallAlloc)
		do(t, m.k, 1, api.CallMap, 1, 1, 1)
		x := &keeper{s: s, home: 31}
		x.save(t, c.what, m.k, 2, false)
		for _, a := range c.acts {
			a(t, m.k)
		}
		saved, code := x.save(t, c.what, m.k, 2, false)
		if code != api.OK || saved.Full || saved.Classes != c.classes || saved.Pages != c.pages {
			t.Errorf("P17.7: %s: %+v, %d, want %d classes, %d pages", c.what, saved, code, c.classes, c.pages)
		}
		if saved, code = x.save(t, c.what, m.k, 2, false); code != api.OK || saved.Full || saved.Pages != 0 {
			t.Errorf("P17.7: %s, and again: %+v, %d", c.what, saved, code)
		}
	}
}

// TestExtentsOfTheStoreInTheTree: the tree holds copies of the store's own extents; they are outs of it, the old chain's too when they are the store's no more.
func TestExtentsOfTheStoreInTheTree(t *testing.T) {
	m, s := example(t)
	x := &keeper{s: s, home: 31}
	x.save(t, "the first", m.k, 2, false)
	do(t, m.k, 0, api.CallGrant, 0, 2, 1)
	x.save(t, "with home", m.k, 2, false)
	x.save(t, "with home", m.k, 2, true)
	do(t, m.k, 0, api.CallGrant, held(m.k, 0, api.KindExtent)[1].Slot, 2, 1)
	saved, code := ckpt.Checkpoint(m.k, s, 0, 2, true)
	if code != api.OK || saved.Gen != 4 {
		t.Fatalf("P17.4: %+v, %d", saved, code)
	}
	now := present(t, m.k, 0, 2, 4)
	folds(t, "P17.6", s, 1, now)
	if len(now.Forest.Outs) != 2 || len(m.k.State().Extents) != 3 || fmt.Sprint(s.Extents()) != "[[0]]" {
		t.Errorf("P17.5: outs %v, claimed %v, the chain on %v", now.Forest.Outs, m.k.State().Extents, s.Extents())
	}
}

// TestAnotherKernel: what is committed is there for a kernel of its own over a copy of the medium, and is built upon there.
func TestAnotherKernel(t *testing.T) {
	m, s := example(t)
	for gen := 1; gen <= 3; gen++ {
		stored(t, m.k, 1, 1, uint32(gen))
		saves(t, "P17.6", m.k, s, 0, 2, false, api.Saved{Gen: gen, Classes: 1, Pages: 1, Bytes: 284, Full: gen == 1})
		o := m.copied(t)
		r := opened(t, o.k, 0, 31)
		folds(t, "P17.6: another kernel", r, gen, present(t, m.k, 0, 2, gen))
		slot := do(t, o.k, 0, api.CallSpawn, 2, 0, 0)
		do(t, o.k, 1, api.CallAlloc)
		saves(t, "P17.6: another kernel", o.k, r, 0, slot, false, api.Saved{Gen: gen + 1, Classes: 1, Pages: 1, Bytes: 280})
		folds(t, "P17.6: another kernel", r, gen+1, present(t, o.k, 0, slot, gen+1))
	}
}
