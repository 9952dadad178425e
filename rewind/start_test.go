package rewind_test

import (
	"fmt"
	"math"
	"testing"

	"amber/api"
	"amber/ckpt"
	"amber/gate"
	"amber/rewind"
	"amber/store"
	"amber/walk"
)

// Start: its errors, each alone and all together in their order, and that it is a full checkpoint.

// faults: what can be wrong with a Start, in the order in which it is told; the last is the checkpoint's own.
var faults = []api.Errno{api.ErrArg, api.ErrEnv, api.ErrNoCap, api.ErrKind, api.ErrRights, api.ErrSelf, api.ErrState, api.ErrStaleCap, api.ErrNoSpace}

// site: a machine on which a Start goes wrong in the ways that a set names: the caller is environment 1, below it stands environment 2, and below that environment 3. The way says how a thing goes wrong, where there are several.
type site struct {
	machine
	set, way int
	slot     int
}

func (x *site) has(code api.Errno) bool {
	for i, f := range faults {
		if f == code {
			return x.set>>i&1 == 1
		}
	}
	return false
}

func newSite(t *testing.T, set, way int) *site {
	t.Helper()
	x := &site{machine: newMachine(), set: set, way: way}
	do(t, x.k, 0, api.CallSpawn, 40, 8, 10)
	x.s = opened(t, x.k, 1, 31)
	child := do(t, x.k, 1, api.CallSpawn, 15, 2, 2)
	do(t, x.k, 2, api.CallSpawn, 5, 0, 0)
	do(t, x.k, 2, api.CallAlloc)
	if x.has(api.ErrStaleCap) {
		x.lendOut(t)
	}
	x.slot = x.pickSlot(t, child)
	if x.has(api.ErrNoSpace) {
		x.takeExtents(t)
	}
	if x.has(api.ErrEnv) {
		do(t, x.k, 0, api.CallKill, 0)
	}
	if x.has(api.ErrArg) {
		x.s.Close()
	}
	return x
}

// takeExtents leaves the caller none: of its 10 the home is one, and environment 2 has two.
func (x *site) takeExtents(t *testing.T) {
	t.Helper()
	do(t, x.k, 1, api.CallSpawn, 0, 0, 7)
}

// lendOut gives the tree something of others: a frame, an extent, or an environment.
func (x *site) lendOut(t *testing.T) {
	t.Helper()
	switch x.way % 3 {
	case 0:
		lent := do(t, x.k, 0, api.CallAlloc)
		do(t, x.k, 0, api.NatPlace, lent, -1, 3, 9, api.AllRights&^api.Own)
	case 1:
		lent := do(t, x.k, 0, api.NatClaim, -1)
		do(t, x.k, 0, api.NatPlace, lent, -1, 2, 9, api.AllRights)
	case 2:
		do(t, x.k, 0, api.NatSelf, -1, 1, 3, 9, api.Read)
	}
}

// pickSlot: the slot that Start is asked for.
func (x *site) pickSlot(t *testing.T, child int) int {
	t.Helper()
	rights := api.AllRights
	if x.has(api.ErrRights) {
		rights = []int{7, 11 &^ api.Write, 15 &^ api.Read, 0, api.Own, api.Read | api.Write}[x.way%6]
	}
	target := 2
	switch {
	case x.has(api.ErrNoCap):
		return []int{-1, 40, 47, 48, math.MaxInt, math.MinInt}[x.way%6]
	case x.has(api.ErrKind):
		whole := do(t, x.k, 1, api.CallAlloc)
		return do(t, x.k, 1, api.CallDerive, whole, rights)
	case x.has(api.ErrSelf):
		target = x.way % 2 // the caller, or what is above it
	case x.has(api.ErrState) && x.way%3 == 2:
		target = 3 // below the caller, but not its child
	case rights == api.AllRights && !x.has(api.ErrState):
		return child
	}
	if !x.has(api.ErrState) || target == 3 {
		return do(t, x.k, 0, api.NatSelf, -1, target, 1, -1, rights)
	}
	if x.way%3 == 0 {
		whole := do(t, x.k, 0, api.NatSelf, -1, target, 1, -1, api.AllRights)
		return do(t, x.k, 1, api.CallDerive, whole, rights)
	}
	// Lent by one above the caller: no call of the caller's own tells that.
	whole := do(t, x.k, 0, api.NatSelf, -1, target, 0, -1, api.AllRights)
	return do(t, x.k, 0, api.NatPlace, whole, -1, 1, -1, rights)
}

func (x *site) first() api.Errno {
	for _, code := range faults {
		if x.has(code) {
			return code
		}
	}
	return api.OK
}

// TestStartOrder: all sets of faults, in several ways each: the first is told, and nothing has changed.
func TestStartOrder(t *testing.T) {
	for set := range 1 << len(faults) {
		for way := range 6 {
			x := newSite(t, set, way)
			what := fmt.Sprintf("the faults %09b, way %d", set, way)
			switch want := x.first(); want {
			case api.OK:
				x.begun(t, 1, x.slot)
			case api.ErrNoSpace:
				if y, code := rewind.Start(x.k, x.s, 1, x.slot); y != nil || code != want {
					t.Errorf("P25.1: %s: Start = %v, %d, want %d", what, y, code, want)
				}
			default:
				x.refusesStart(t, what, 1, x.slot, want)
			}
		}
	}
}

// Without a kernel or a store, or with others than those that belong together.
func TestStartOfStrangers(t *testing.T) {
	m, other := house(t, counts), house(t, counts)
	before, there := m.shape(), other.shape()
	for _, c := range []struct {
		k   *gate.Kernel
		s   *store.Store
		env int
	}{{nil, m.s, 0}, {m.k, nil, 0}, {nil, nil, 0}, {nil, nil, -1}, {other.k, m.s, 0}, {m.k, other.s, 0}, {m.k, m.s, 1}, {m.k, m.s, 2}, {m.k, m.s, -1}, {m.k, m.s, 16}, {m.k, m.s, math.MaxInt}, {m.k, m.s, math.MinInt}} {
		for _, slot := range []int{1, 0, -1, 48, math.MaxInt, math.MinInt} {
			if x, code := rewind.Start(c.k, c.s, c.env, slot); x != nil || code != api.ErrArg {
				t.Errorf("P25.1: Start(%v, %v, %d, %d) = %v, %d", c.k != nil, c.s != nil, c.env, slot, x, code)
			}
		}
	}
	m.unchanged(t, "P25.1: strangers", before, 0)
	other.unchanged(t, "P25.1: strangers", there, 0)
}

// A caller's number that was given to another environment is not the caller.
func TestStartOfAnotherCaller(t *testing.T) {
	x := newSite(t, 0, 0)
	do(t, x.k, 0, api.CallKill, 0)
	do(t, x.k, 0, api.CallSpawn, 30, 4, 4)
	do(t, x.k, 1, api.CallSpawn, 2, 0, 0)
	x.refusesStart(t, "another has the number", 1, 0, api.ErrArg)
}

// Trees with nothing of others: what they hold twice, of one another, and of themselves is inside.
func TestStartOfManyThings(t *testing.T) {
	x := newSite(t, 0, 0)
	do(t, x.k, 1, api.NatSelf, x.slot, 0, 1, 5, 3)
	do(t, x.k, 1, api.NatSelf, x.slot, 1, 1, 6, 1)
	do(t, x.k, 2, api.CallGrant, 1, 0, 8) // the frame: the grandchild has Own alone
	do(t, x.k, 2, api.CallDerive, 1, 0)
	before, _, _ := walk.Read(x.k, 1, x.slot)
	trip := x.begun(t, 1, x.slot)
	backs(t, trip, 0)
	if f := forest(t, x.k, 1, trip.Slot()); len(before.Outs) > 0 || !same(f, before) {
		t.Errorf("P25.2: the tree is %+v, was %+v", f, before)
	}
}

// likeACheckpoint holds a Start against a full checkpoint on a machine that is the same.
func likeACheckpoint(t *testing.T, what string, here, there machine, env, slot int) {
	t.Helper()
	_, want := ckpt.Checkpoint(there.k, there.s, env, slot, true)
	x, code := rewind.Start(here.k, here.s, env, slot)
	if code != want || (x != nil) != (code == api.OK) {
		t.Fatalf("P25.1: %s: Start(%d, %d) = %v, %d, want %d", what, env, slot, x, code, want)
	}
	here.unchanged(t, "P25.1: "+what, there.shape(), 0)
}

// TestStartIsACheckpoint: a full one, whatever the store has already.
func TestStartIsACheckpoint(t *testing.T) {
	for images := range 6 {
		var l [2]machine
		for i := range l {
			l[i] = newSite(t, 0, 0).machine
			for n := range images {
				ckpt.Checkpoint(l[i].k, l[i].s, 1, 1, n == 0)
				l[i].k.Call(2, api.Request{Call: api.NatFill, A: [6]int{1}, Data: make([]byte, api.PageBytes)})
			}
			do(t, l[i].k, 1, api.NatFreeze, 1, 0, images%2)
			do(t, l[i].k, 1, api.NatFreeze, 1, 1, images/2%2)
		}
		likeACheckpoint(t, fmt.Sprint(images, " images"), l[0], l[1], 1, 1)
		if l[0].s.Gen() != images+1 || len(l[0].s.Extents()) != 1 {
			t.Errorf("P25.1: behind Start: Gen %d, Extents %v", l[0].s.Gen(), l[0].s.Extents())
		}
	}
}

// TestStartRefusedByTheCheckpoint: its error, with what it says of itself (what it cleaned stays clean, and an act of the disk may be done).
func TestStartRefusedByTheCheckpoint(t *testing.T) {
	for what, trouble := range map[string]struct {
		want api.Errno
		do   func(t *testing.T, x *site)
	}{
		"the disk is down":          {api.ErrDown, func(t *testing.T, x *site) { x.goDown() }},
		"the disk goes down":        {api.ErrDown, func(t *testing.T, x *site) { x.d.Arm(2) }},
		"at its last act":           {api.ErrDown, func(t *testing.T, x *site) { x.d.Arm(5) }},
		"no extents":                {api.ErrNoSpace, func(t *testing.T, x *site) { x.takeExtents(t) }},
		"no slots":                  {api.ErrNoSpace, func(t *testing.T, x *site) { fillSlots(t, x.machine, 1, 0) }},
		"the store's home is gone":  {api.ErrNoCap, func(t *testing.T, x *site) { do(t, x.k, 1, api.CallDrop, 0) }},
		"home is another's by then": {api.ErrNoCap, func(t *testing.T, x *site) { do(t, x.k, 1, api.CallDrop, 0); do(t, x.k, 1, api.CallAlloc) }},
	} {
		here, there := newSite(t, 0, 0), newSite(t, 0, 0)
		trouble.do(t, here)
		trouble.do(t, there)
		if _, code := rewind.Start(newSite(t, 0, 0).k, here.s, 1, 1); code != api.ErrArg {
			t.Errorf("P25.1: %s: another kernel: %d", what, code)
		}
		likeACheckpoint(t, what, here.machine, there.machine, 1, 1)
		if _, code := rewind.Start(here.k, here.s, 1, 1); code != trouble.want {
			t.Errorf("P25.1: %s: Start = %d, want %d", what, code, trouble.want)
		}
	}
}

// fillSlots leaves so many slots of a list free.
func fillSlots(t *testing.T, m machine, env, free int) {
	t.Helper()
	for m.k.Call(env, request(api.NatLeft)).V[3] > free {
		do(t, m.k, env, api.CallDerive, 1, 0)
	}
}

// The caller need not be free to run, nor need the tree be thawed: a Start makes no run.
func TestStartOfWhatIsFlagged(t *testing.T) {
	for way := range 8 {
		x := newSite(t, 0, 0)
		for i, env := range []int{0, 1, 2} {
			do(t, x.k, 0, api.NatFreeze, -1, env, way>>i&1)
		}
		x.begun(t, 1, x.slot)
		for i, env := range []int{0, 1, 2} {
			if look(t, x.k, env).Frozen != (way>>i&1 == 1) {
				t.Errorf("P25.1: the flag of %d is turned", env)
			}
		}
	}
}
