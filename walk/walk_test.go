package walk_test

import (
	"fmt"
	"maps"
	"math"
	"slices"
	"testing"

	"amber/api"
	"amber/gate"
	"amber/mem"
	"amber/walk"
)

// yard: the kernel of the chapter's examples: a frame in slot 0 of environment 0, environment 1 in slot 1.
func yard(t *testing.T) *gate.Kernel {
	t.Helper()
	k := boot(t, 1)
	do(t, k, 0, api.CallAlloc)
	do(t, k, 0, api.CallSpawn, 10, 2, 4)
	return k
}

// full: the yard behind the chapter's examples 2 and 3: environment 2 below environment 1, two frames inside.
func full(t *testing.T) *gate.Kernel {
	t.Helper()
	k := yard(t)
	do(t, k, 0, api.CallGrant, 0, 1, 1)
	do(t, k, 0, api.CallGrant, 0, 1, 8)
	do(t, k, 1, api.CallSpawn, 3, 0, 0)
	do(t, k, 1, api.CallAlloc)
	do(t, k, 1, api.CallGrant, 3, 2, 7)
	return k
}

// tells: Read tells just this.
func tells(t *testing.T, where string, k *gate.Kernel, env, slot int, want api.Forest, keys ...api.Key) {
	t.Helper()
	f, got, code := walk.Read(k, env, slot)
	if code != api.OK || !same(f, want) || !slices.Equal(got, keys) {
		t.Errorf("P14.1: %s: Read(%d, %d) = %+v, %v, %d, want %+v, %v", where, env, slot, f, got, code, want, keys)
	}
}

func dirties(t *testing.T, where string, k *gate.Kernel, env, slot int, want ...bool) {
	t.Helper()
	if got, code := walk.Dirty(k, env, slot); code != api.OK || !slices.Equal(got, want) {
		t.Errorf("P14.2: %s: Dirty(%d, %d) = %v, %d, want %v", where, env, slot, got, code, want)
	}
}

func needs(t *testing.T, f api.Forest, want api.Quota, slots int) {
	t.Helper()
	if q, n := walk.Need(f); q != want || n != slots {
		t.Errorf("P14.6: Need(%+v) = %v, %d, want %v, %d", f, q, n, want, slots)
	}
}

// refuses: all five calls are refused with this error, tell nothing beside it, and change nothing.
func refuses(t *testing.T, k *gate.Kernel, env, slot int, want api.Errno) {
	t.Helper()
	var before api.State
	if k != nil {
		before = k.State()
	}
	where := fmt.Sprintf("(%d, %d)", env, slot)
	if f, keys, code := walk.Read(k, env, slot); code != want || !same(f, api.Forest{}) || len(keys) != 0 {
		t.Errorf("P14.1: Read%s = %+v, %v, %d, want %d", where, f, keys, code, want)
	}
	if l, code := walk.Dirty(k, env, slot); code != want || len(l) != 0 {
		t.Errorf("P14.2: Dirty%s = %v, %d, want %d", where, l, code, want)
	}
	if n, code := walk.Clean(k, env, slot); code != want || n != 0 {
		t.Errorf("P14.3: Clean%s = %d, %d, want %d", where, n, code, want)
	}
	if in, code := walk.Holds(k, env, slot); code != want || in {
		t.Errorf("P14.4: Holds%s = %v, %d, want %d", where, in, code, want)
	}
	for _, on := range []bool{true, false} {
		if was, code := walk.Freeze(k, env, slot, on); code != want || was {
			t.Errorf("P14.5: Freeze%s = %v, %d, want %d", where, was, code, want)
		}
	}
	if k != nil {
		unchanged(t, "refused "+where, k, before)
	}
}

// alone: the environment 1 of the yard, with nothing in its list.
func alone() api.Forest {
	return api.Forest{Envs: []api.EnvRec{{Parent: -1, Frozen: true, Quota: api.Quota{Frames: 10, Envs: 2, Extents: 4}}}}
}

func TestExamples(t *testing.T) {
	k := yard(t)
	want := alone()
	tells(t, "example 1", k, 0, 1, want)
	dirties(t, "example 1", k, 0, 1)
	needs(t, want, api.Quota{Frames: 10, Envs: 3, Extents: 4}, 1)

	do(t, k, 0, api.CallGrant, 0, 1, 1)
	want.Caps = []api.CapRec{{Kind: 1, Rights: 1, From: none}}
	want.Outs = []api.OutRec{{Kind: 1, Serial: 2}}
	tells(t, "example 2", k, 0, 1, want)
	dirties(t, "example 2", k, 0, 1)
	do(t, k, 0, api.CallGrant, 0, 1, 8)
	want.Caps = []api.CapRec{{Kind: 1, Rights: 1, In: true, From: none}, {Slot: 1, Kind: 1, Rights: 8, In: true, From: none}}
	want.Outs, want.Pages = nil, make([]api.Page, 1)
	tells(t, "example 2", k, 0, 1, want, api.Key{Serial: 2})
	needs(t, want, api.Quota{Frames: 11, Envs: 3, Extents: 4}, 2)

	k = full(t)
	want.Envs = append(want.Envs, api.EnvRec{Quota: api.Quota{Frames: 3}})
	want.Pages = make([]api.Page, 2)
	want.Caps = append(want.Caps,
		api.CapRec{Slot: 2, Kind: 2, Rights: 15, In: true, Obj: 1, From: none},
		api.CapRec{Slot: 3, Kind: 1, Rights: 15, In: true, Obj: 1, From: none},
		api.CapRec{Env: 1, Kind: 1, Rights: 7, In: true, Obj: 1, From: api.Place{Slot: 3}})
	tells(t, "example 3", k, 0, 1, want, api.Key{Serial: 2}, api.Key{Serial: 5})
	dirties(t, "example 3", k, 0, 1, true, true)
	cleans(t, "example 3", k, 0, 1)
	tells(t, "example 3", k, 0, 1, want, api.Key{Serial: 2, Mark: 6}, api.Key{Serial: 5, Mark: 7})
	dirties(t, "example 3", k, 0, 1, false, false)
	cleans(t, "example 3", k, 0, 1)

	do(t, k, 2, api.CallMap, 5, 0, 1)
	k.Store(2, 160, 9)
	want.Pages[1][0] = 9
	want.Maps = []api.MapRec{{Env: 1, V: 5, Write: true}}
	tells(t, "example 4", k, 0, 1, want, api.Key{Serial: 2, Mark: 6}, api.Key{Serial: 5, Mark: 7})
	dirties(t, "example 4", k, 0, 1, false, true)
}

func TestExampleFive(t *testing.T) {
	k := full(t)
	do(t, k, 0, api.CallStart, 1, 0)
	ahead, _, _ := walk.Read(k, 0, 1)
	for _, want := range []bool{false, true, true} {
		if was, code := walk.Freeze(k, 0, 1, true); was != want || code != api.OK || k.Runs(1) {
			t.Errorf("P14.5: Freeze = %v, %d, want %v; it runs: %v", was, code, want, k.Runs(1))
		}
	}
	tells(t, "frozen", k, 0, 1, ahead, api.Key{Serial: 2}, api.Key{Serial: 5})
	for _, want := range []bool{true, false, false} {
		if was, code := walk.Freeze(k, 0, 1, false); was != want || code != api.OK || !k.Runs(1) {
			t.Errorf("P14.5: thawed: Freeze = %v, %d, want %v; it runs: %v", was, code, want, k.Runs(1))
		}
	}
	tells(t, "thawed", k, 0, 1, ahead, api.Key{Serial: 2}, api.Key{Serial: 5})

	do(t, k, 0, api.NatSelf, -1, 0, 0, 5, 3)
	if f, _, code := walk.Read(k, 0, 5); len(f.Envs) != 3 || code != api.OK {
		t.Errorf("P14.1: of the tree of environment 0: %+v, %d", f.Envs, code)
	}
	for slot, want := range map[int]bool{1: false, 5: true} {
		if in, code := walk.Holds(k, 0, slot); in != want || code != api.OK {
			t.Errorf("P14.4: Holds(0, %d) = %v, %d, want %v", slot, in, code, want)
		}
	}
	before := k.State()
	if was, code := walk.Freeze(k, 0, 5, true); was || code != api.ErrSelf {
		t.Errorf("P14.5: Freeze of the caller's own tree = %v, %d", was, code)
	}
	unchanged(t, "P14.5", k, before)
}

// TestOrderOfErrors: each ahead of all that come behind it.
func TestOrderOfErrors(t *testing.T) {
	k := full(t)
	nobody := []int{3, 15, 16, -1, math.MinInt, math.MaxInt}
	noSlot := []int{2, 46, 47, 48, -1, -2, math.MinInt, math.MaxInt}
	for _, slot := range append(noSlot, 0, 1) {
		for _, env := range append(nobody, 0) {
			refuses(t, nil, env, slot, api.ErrArg)
		}
		for _, env := range nobody {
			refuses(t, k, env, slot, api.ErrEnv)
		}
	}
	for _, slot := range noSlot {
		refuses(t, k, 0, slot, api.ErrNoCap)
	}
	refuses(t, k, 0, 0, api.ErrKind)
	// What is no environment is of a wrong kind with whatever rights.
	do(t, k, 0, api.NatClaim, 3)
	refuses(t, k, 0, 2, api.ErrKind)
	do(t, k, 0, api.NatPlace, 0, -1, 0, 40, 0)
	do(t, k, 0, api.NatPlace, 2, -1, 0, 41, 0)
	refuses(t, k, 0, 40, api.ErrKind)
	refuses(t, k, 0, 41, api.ErrKind)
	// The caller is in the tree, but has too few rights on it.
	for _, rights := range []int{0, 2, 4, 8, 14} {
		do(t, k, 0, api.NatSelf, -1, 0, 0, 42, rights)
		refuses(t, k, 0, 42, api.ErrRights)
		do(t, k, 0, api.CallDrop, 42)
	}
}

// TestRights: Read lets a tree be read; to clean it and to freeze it takes Write too, and nothing else.
func TestRights(t *testing.T) {
	for rights := range 16 {
		k := full(t)
		do(t, k, 0, api.NatPlace, 1, -1, 0, 20, rights)
		read, write := api.OK, api.OK
		if rights&1 == 0 {
			read = api.ErrRights
		}
		if rights&3 != 3 {
			write = api.ErrRights
		}
		want, _ := modelOpen(k, 0, 1, 1)
		if f, _, code := walk.Read(k, 0, 20); code != read || read == api.OK && !same(f, want.forest) {
			t.Errorf("P14.1: with the rights %d: %+v, %d, want %d", rights, f, code, read)
		}
		if l, code := walk.Dirty(k, 0, 20); code != read || read == api.OK && !slices.Equal(l, []bool{true, true}) {
			t.Errorf("P14.2: with the rights %d: %v, %d, want %d", rights, l, code, read)
		}
		if in, code := walk.Holds(k, 0, 20); code != read || in {
			t.Errorf("P14.4: with the rights %d: %v, %d, want %d", rights, in, code, read)
		}
		cleans(t, fmt.Sprint("rights ", rights), k, 0, 20)
		freezes(t, fmt.Sprint("rights ", rights), k, 0, 20, true)
		if n, code := walk.Clean(k, 0, 20); code != write || n != 0 {
			t.Errorf("P14.3: with the rights %d: %d, %d, want %d", rights, n, code, write)
		}
		if was, code := walk.Freeze(k, 0, 20, true); code != write || was != (write == api.OK) {
			t.Errorf("P14.5: with the rights %d: %v, %d, want %d", rights, was, code, write)
		}
	}
}

// set gives an environment's state, code, bits and registers.
func set(t *testing.T, k *gate.Kernel, env int, e api.EnvRec) {
	t.Helper()
	var p api.Page
	copy(p[:], append(slices.Clone(e.Regs.R[:]), e.Regs.PC))
	r := request(api.NatSet, -1, 0, e.State, e.Code, e.Bits)
	r.Data = mem.Pack(p)[:36]
	if got := k.Call(env, r); got.Code != api.OK {
		t.Fatalf("set: %d", got.Code)
	}
}

// TestEnvironmentsAsTheyAre: every field with a number of its own, and the greatest that there are.
func TestEnvironmentsAsTheyAre(t *testing.T) {
	k := yard(t)
	do(t, k, 1, api.CallSpawn, 3, 0, 2)
	for _, e := range []api.EnvRec{
		{State: 3, Code: 11, Bits: 12, Regs: api.Regs{R: [8]uint32{20, 21, 22, 23, 24, 25, 26, 27}, PC: 28}},
		{State: 4, Code: api.MaxWord, Bits: api.MaxWord - 1, Regs: api.Regs{R: [8]uint32{math.MaxUint32, 1 << 31, 7: math.MaxUint32}, PC: math.MaxUint32}},
		{State: 2, Code: 1 << 31, Bits: 1},
		{State: 1},
		{State: 0, Bits: 1 << 31},
	} {
		for _, flag := range []int{1, 0} {
			set(t, k, 1, e)
			set(t, k, 2, e)
			do(t, k, 1, api.NatFreeze, -1, 1, flag)
			first, second := e, e
			first.Parent, first.Frozen, first.Quota = -1, true, api.Quota{Frames: 10, Envs: 2, Extents: 4}
			second.Frozen, second.Quota = flag == 1, api.Quota{Frames: 3, Extents: 2}
			if f, _, code := walk.Read(k, 0, 1); code != api.OK || !slices.Equal(f.Envs, []api.EnvRec{first, second}) {
				t.Errorf("P14.1: Envs %+v, %d, want %+v", f.Envs, code, []api.EnvRec{first, second})
			}
		}
	}
}

// TestTheFirstIsFrozen: whatever its flag is, and whatever is above it; the others are told by their own flags alone.
func TestTheFirstIsFrozen(t *testing.T) {
	for flags := range 8 {
		k := full(t)
		do(t, k, 0, api.NatFreeze, -1, 0, flags&1)
		do(t, k, 0, api.NatFreeze, -1, 1, flags>>1&1)
		do(t, k, 0, api.NatFreeze, -1, 2, flags>>2&1)
		f, _, _ := walk.Read(k, 0, 1)
		if !f.Envs[0].Frozen || f.Envs[1].Frozen != (flags>>2 == 1) {
			t.Errorf("P14.1: with the flags %03b: %+v", flags, f.Envs)
		}
	}
}

// TestPreorder: children stand by their serials, whatever their numbers: two of them have a lower number than an elder one.
func TestPreorder(t *testing.T) {
	k := boot(t, 9)
	_, a := spawn(t, k, 0, 1, 0, 0)
	slot, top := spawn(t, k, 0, 40, 10, 0)
	_, b := spawn(t, k, 0, 2, 0, 0)
	_, elder := spawn(t, k, top, 5, 1, 0)
	do(t, k, 0, api.CallKill, 0)
	do(t, k, 0, api.CallKill, 2)
	_, middle := spawn(t, k, top, 6, 2, 0)
	spawn(t, k, elder, 3, 0, 0)
	spawn(t, k, top, 7, 0, 0)
	spawn(t, k, middle, 4, 1, 0)
	if a != 1 || b != 3 || middle != 1 || elder != 4 {
		t.Fatalf("the numbers are %d %d %d %d", a, b, middle, elder)
	}
	f, _, _ := walk.Read(k, 0, slot)
	var got [][2]int
	for _, e := range f.Envs {
		got = append(got, [2]int{e.Parent, e.Quota.Frames})
	}
	if want := [][2]int{{-1, 40}, {0, 5}, {1, 3}, {0, 6}, {3, 4}, {0, 7}}; !slices.Equal(got, want) {
		t.Errorf("P14.1: parents and frames %v, want %v", got, want)
	}
}

// tower: environment 0 (serial 100), below it top (101, in slot 0) with low (102) below that, and stranger (103, in slot 1).
func tower(t *testing.T) (k *gate.Kernel, top, low, stranger int) {
	t.Helper()
	k = boot(t, 100)
	_, top = spawn(t, k, 0, 30, 3, 5)
	_, low = spawn(t, k, top, 10, 0, 2)
	_, stranger = spawn(t, k, 0, 2, 0, 0)
	return k, top, low, stranger
}

// fillPage gives the frame in a slot words of its own.
func fillPage(t *testing.T, k *gate.Kernel, env, slot int, p api.Page) {
	t.Helper()
	r := request(api.NatFill, slot)
	r.Data = mem.Pack(p)
	if got := k.Call(env, r); got.Code != api.OK {
		t.Fatalf("fill: %d", got.Code)
	}
}

// TestFirstSight: what is inside and what is not; classes and outs are numbered as the capabilities come, by place, then slot, not as they were made.
func TestFirstSight(t *testing.T) {
	k, top, _, _ := tower(t)
	for range 4 {
		do(t, k, 0, api.CallAlloc) // in the slots 2 to 5, of the serials 104 to 107
	}
	do(t, k, 0, api.NatClaim, 7) // slot 6, serial 108
	fillPage(t, k, 0, 2, api.Page{0: 4, 31: math.MaxUint32})
	fillPage(t, k, 0, 5, api.Page{0: 0x07060504, 30: 1 << 31})
	for _, p := range [][4]int{ // from a slot of environment 0 to a place and a slot of the tree, with rights
		{3, 0, 47, 7}, {2, 0, 46, 1}, {2, 1, 9, 8}, {4, 0, 8, 3}, {4, 1, 3, 7}, {5, 1, 2, 15}, {5, 0, 45, 0}, {6, 1, 47, 1}, {6, 0, 3, 15}, {1, 0, 4, 15}, {0, 1, 0, 15},
	} {
		do(t, k, 0, api.NatPlace, p[0], 0, p[1], p[2], p[3])
	}
	do(t, k, 0, api.NatSelf, -1, 0, 2, 44, 15)
	do(t, k, top, api.NatSelf, -1, 0, 1, 1, 2)
	do(t, k, top, api.NatCopy, -1, 0, 4, 1, 5, 3)
	tells(t, "first sight", k, 0, 0, api.Forest{
		Envs: []api.EnvRec{
			{Parent: -1, Frozen: true, Quota: api.Quota{Frames: 30, Envs: 3, Extents: 5}},
			{Parent: 0, Quota: api.Quota{Frames: 10, Extents: 2}},
		},
		Caps: []api.CapRec{
			{Env: 0, Slot: 0, Kind: 2, Rights: 15, In: true, Obj: 1, From: none},
			{Env: 0, Slot: 3, Kind: 3, Rights: 15, Obj: 0, From: none},
			{Env: 0, Slot: 4, Kind: 2, Rights: 15, Obj: 1, From: none},
			{Env: 0, Slot: 8, Kind: 1, Rights: 3, Obj: 2, From: none},
			{Env: 0, Slot: 45, Kind: 1, Rights: 0, In: true, Obj: 0, From: none},
			{Env: 0, Slot: 46, Kind: 1, Rights: 1, In: true, Obj: 1, From: none},
			{Env: 0, Slot: 47, Kind: 1, Rights: 7, Obj: 3, From: none},
			{Env: 1, Slot: 0, Kind: 2, Rights: 15, In: true, Obj: 0, From: none},
			{Env: 1, Slot: 1, Kind: 2, Rights: 2, In: true, Obj: 0, From: none},
			{Env: 1, Slot: 2, Kind: 1, Rights: 15, In: true, Obj: 0, From: none},
			{Env: 1, Slot: 3, Kind: 1, Rights: 7, Obj: 2, From: none},
			{Env: 1, Slot: 5, Kind: 2, Rights: 3, Obj: 1, From: api.Place{Env: 0, Slot: 4}},
			{Env: 1, Slot: 9, Kind: 1, Rights: 8, In: true, Obj: 1, From: none},
			{Env: 1, Slot: 44, Kind: 2, Rights: 15, Obj: 4, From: none},
			{Env: 1, Slot: 47, Kind: 3, Rights: 1, Obj: 0, From: none},
		},
		Pages: []api.Page{{0: 0x07060504, 30: 1 << 31}, {0: 4, 31: math.MaxUint32}},
		Outs:  []api.OutRec{{Kind: 3, Serial: 108}, {Kind: 2, Serial: 103}, {Kind: 1, Serial: 106}, {Kind: 1, Serial: 105}, {Kind: 2, Serial: 100}},
	}, api.Key{Serial: 107}, api.Key{Serial: 104})
	dirties(t, "first sight", k, 0, 0, true, true)
}

// TestInsideHangsOnTheTree: one and the same frame is inside a tree, and outside one that is smaller.
func TestInsideHangsOnTheTree(t *testing.T) {
	k, top, low, _ := tower(t)
	slot := do(t, k, top, api.CallAlloc) // serial 104
	do(t, k, top, api.CallGrant, slot, 0, 7)
	do(t, k, 0, api.NatSelf, -1, 2, 0, 9, 1)
	f, keys, _ := walk.Read(k, 0, 9)
	if want := (api.CapRec{Kind: 1, Rights: 7, From: none}); len(f.Caps) != 1 || f.Caps[0] != want || len(f.Pages)+len(keys) != 0 || !slices.Equal(f.Outs, []api.OutRec{{Kind: 1, Serial: 104}}) {
		t.Errorf("P14.1: of environment %d alone: %+v, %v", low, f, keys)
	}
	f, keys, _ = walk.Read(k, 0, 0)
	if want := (api.CapRec{Env: 1, Kind: 1, Rights: 7, In: true, From: api.Place{Env: 0, Slot: slot}}); len(f.Caps) != 3 || f.Caps[2] != want || len(f.Outs) != 0 || !slices.Equal(keys, []api.Key{{Serial: 104}}) {
		t.Errorf("P14.1: of both: %+v, %v", f, keys)
	}
	// The owner goes: the frame is an out now.
	do(t, k, top, api.CallDrop, slot)
	f, keys, _ = walk.Read(k, 0, 0)
	if want := (api.CapRec{Env: 1, Kind: 1, Rights: 7, From: none}); len(f.Caps) != 2 || f.Caps[1] != want || len(f.Pages)+len(keys) != 0 || len(f.Outs) != 1 {
		t.Errorf("P14.1: without the owner: %+v, %v", f, keys)
	}
}

// froms: From of each capability on a frame, by place and slot.
func froms(t *testing.T, k *gate.Kernel, slot int) map[api.Place]api.Place {
	t.Helper()
	f, _, code := walk.Read(k, 0, slot)
	if code != api.OK {
		t.Fatalf("P14.1: Read(0, %d): %d", slot, code)
	}
	m := map[api.Place]api.Place{}
	for _, c := range f.Caps {
		if c.Kind == api.KindFrame {
			m[api.Place{Env: c.Env, Slot: c.Slot}] = c.From
		}
	}
	return m
}

// TestNearestAncestor: a derivation goes out of the tree and comes in again, down and up in it.
func TestNearestAncestor(t *testing.T) {
	k, top, low, stranger := tower(t)
	do(t, k, low, api.CallAlloc)                      // {1, 0}
	do(t, k, 0, api.NatSelf, -1, 0, 2, 1, 15)         // low may act on environment 0
	do(t, k, low, api.NatPlace, 0, 1, 0, 20, 15)      // 0's slot 20, from {1, 0}
	do(t, k, 0, api.NatPlace, 20, 1, 0, 5, 15)        // the stranger's slot 5, from 0's
	do(t, k, 0, api.NatSelf, -1, 1, 3, 6, 15)         // the stranger may act on top
	do(t, k, stranger, api.NatPlace, 5, 6, 0, 30, 15) // {0, 30}, from the stranger's
	do(t, k, top, api.NatPlace, 30, -1, 1, 31, 15)    // {1, 31}, from {0, 30}
	do(t, k, top, api.NatPlace, 30, -1, 0, 2, 7)      // {0, 2}, from {0, 30}
	want := map[api.Place]api.Place{{Env: 1, Slot: 0}: none, {Env: 0, Slot: 30}: {Env: 1, Slot: 0}, {Env: 1, Slot: 31}: {Env: 0, Slot: 30}, {Env: 0, Slot: 2}: {Env: 0, Slot: 30}}
	if got := froms(t, k, 0); !maps.Equal(got, want) {
		t.Errorf("P14.1: From %v, want %v", got, want)
	}
	do(t, k, top, api.CallDrop, 30) // what was derived from it has the stranger's for its parent
	want = map[api.Place]api.Place{{Env: 1, Slot: 0}: none, {Env: 1, Slot: 31}: {Env: 1, Slot: 0}, {Env: 0, Slot: 2}: {Env: 1, Slot: 0}}
	if got := froms(t, k, 0); !maps.Equal(got, want) {
		t.Errorf("P14.1: behind a drop: From %v, want %v", got, want)
	}
	do(t, k, low, api.CallDrop, 0)
	want = map[api.Place]api.Place{{Env: 1, Slot: 31}: none, {Env: 0, Slot: 2}: none}
	if got := froms(t, k, 0); !maps.Equal(got, want) {
		t.Errorf("P14.1: behind a drop of the first: From %v, want %v", got, want)
	}
}

// TestMaps: of all environments, by place, then page.
func TestMaps(t *testing.T) {
	k, top, low, _ := tower(t)
	for slot := 1; slot < 4; slot++ {
		do(t, k, top, api.CallAlloc)
	}
	do(t, k, top, api.CallGrant, 2, 0, 3)
	do(t, k, 0, api.CallAlloc)
	do(t, k, 0, api.CallMap, 7, 2, 1) // outside
	do(t, k, top, api.CallMap, 15, 1, 0)
	do(t, k, low, api.CallMap, 1, 0, 1)
	do(t, k, top, api.CallMap, 0, 3, 1)
	do(t, k, low, api.CallMap, 0, 0, 0)
	do(t, k, top, api.CallMap, 2, 2, 1)
	do(t, k, top, api.CallUnmap, 2)
	f, _, _ := walk.Read(k, 0, 0)
	want := []api.MapRec{{Env: 0, V: 0, Slot: 3, Write: true}, {Env: 0, V: 15, Slot: 1}, {Env: 1, V: 0, Slot: 0}, {Env: 1, V: 1, Slot: 0, Write: true}}
	if !slices.Equal(f.Maps, want) {
		t.Errorf("P14.1: Maps %+v, want %+v", f.Maps, want)
	}
}

// TestCleanByClass: the marks rise with the classes, not with the frames' numbers; a frame with two capabilities is cleaned once, a clean one and an out not at all.
func TestCleanByClass(t *testing.T) {
	k, top, low, _ := tower(t)
	for range 3 {
		do(t, k, top, api.CallAlloc) // slots 1 to 3, serials 104 to 106
	}
	do(t, k, low, api.CallAlloc) // serial 107
	do(t, k, 0, api.CallAlloc)   // serial 108
	do(t, k, 0, api.NatPlace, 2, 0, 0, 10, 7)
	do(t, k, top, api.NatCopy, -1, 0, 1, 0, 40, 15)
	do(t, k, top, api.NatCopy, -1, 0, 2, 1, 7, 15)
	do(t, k, top, api.CallDrop, 1)
	do(t, k, top, api.NatClean, -1, 0, 3) // its mark is 109
	dirties(t, "clean by class", k, 0, 0, true, false, true, true)
	cleans(t, "clean by class", k, 0, 0)
	_, keys, _ := walk.Read(k, 0, 0)
	if want := []api.Key{{Serial: 105, Mark: 110}, {Serial: 106, Mark: 109}, {Serial: 104, Mark: 111}, {Serial: 107, Mark: 112}}; !slices.Equal(keys, want) || k.Serial() != 113 {
		t.Errorf("P14.3: keys %v, next serial %d, want %v, 113", keys, k.Serial(), want)
	}
	if got := k.Call(0, request(api.NatPage, -1, 0, 2)); got.V != [4]int{1, 0, 108} {
		t.Errorf("P14.3: the out has dirty, mark and serial %v", got.V)
	}
	dirties(t, "clean by class", k, 0, 0, false, false, false, false)
}

// TestCallers: who holds the capability does not matter but for ErrSelf: one above, one beside, one below the tree's root, itself.
func TestCallers(t *testing.T) {
	k, top, low, stranger := tower(t)
	do(t, k, low, api.CallAlloc)
	for _, c := range []struct {
		env, place int
		in         bool
	}{{0, 0, false}, {stranger, 3, false}, {low, 2, true}, {top, 1, true}} {
		do(t, k, 0, api.NatSelf, -1, 1, c.place, 33, 3)
		where := fmt.Sprint("caller ", c.env)
		reads(t, where, k, c.env, 33)
		cleans(t, where, k, c.env, 33)
		for _, on := range []bool{true, false, true} {
			freezes(t, where, k, c.env, 33, on)
		}
		in, code := walk.Holds(k, c.env, 33)
		if in != c.in || code != api.OK {
			t.Errorf("P14.4: %s: Holds = %v, %d, want %v", where, in, code, c.in)
		}
		wanted := api.OK
		if c.in {
			wanted = api.ErrSelf
		}
		if _, code := walk.Freeze(k, c.env, 33, false); code != wanted {
			t.Errorf("P14.5: %s: Freeze: %d, want %d", where, code, wanted)
		}
	}
	// A tree beside the caller's own line, and one below the caller.
	do(t, k, 0, api.NatSelf, -1, 3, 1, 34, 3)
	for _, on := range []bool{true, false} {
		freezes(t, "beside", k, top, 34, on)
		freezes(t, "below", k, top, 0, on)
	}
}

// TestCallersState: a caller that is flagged, done or faulted walks all the same.
func TestCallersState(t *testing.T) {
	for state := range 5 {
		k, top, _, _ := tower(t)
		do(t, k, top, api.CallAlloc)
		set(t, k, 0, api.EnvRec{State: state, Code: 7, Bits: 3})
		do(t, k, 0, api.NatFreeze, -1, 0, 1)
		where := fmt.Sprint("state ", state)
		reads(t, where, k, 0, 0)
		freezes(t, where, k, 0, 0, true)
		cleans(t, where, k, 0, 0)
		if _, code := walk.Dirty(k, 0, 0); code != api.OK {
			t.Errorf("P14.2: %s: %d", where, code)
		}
	}
}

// TestGreatest: all environments, all frames, all extents, all slots, all pages.
func TestGreatest(t *testing.T) {
	k := boot(t, 1)
	for range api.MaxEnvs - 1 {
		do(t, k, 0, api.NatNew, -1, 0, 4, 0, 2)
	}
	for place := range api.MaxEnvs {
		for range 4 {
			do(t, k, place, api.CallAlloc)
		}
		for range 2 {
			do(t, k, place, api.NatClaim, -1)
		}
		for slot := 6; slot < api.MaxSlots; slot++ {
			do(t, k, 0, api.NatSelf, -1, (place+slot)%api.MaxEnvs, place, slot, slot%16)
		}
		for v := range api.MaxPages {
			do(t, k, place, api.CallMap, v, v%4, v%2)
		}
		fillPage(t, k, place, place%4, api.Page{0: uint32(place), 31: math.MaxUint32})
	}
	f, keys, code := walk.Read(k, 1, 15) // on environment 0, with all rights
	if code != api.OK || len(f.Envs) != 16 || len(f.Caps) != 16*48 || len(f.Maps) != 16*16 || len(f.Pages) != 64 || len(keys) != 64 || len(f.Outs) != 32 {
		t.Errorf("P14.1: %d, %d, %d, %d, %d, %d, %d", code, len(f.Envs), len(f.Caps), len(f.Maps), len(f.Pages), len(keys), len(f.Outs))
	}
	reads(t, "greatest", k, 1, 15)
	cleans(t, "greatest", k, 1, 15)
	if n, code := walk.Clean(k, 1, 15); n != 0 || code != api.OK {
		t.Errorf("P14.3: %d, %d", n, code)
	}
}

// TestDeepest: sixteen environments, each below the one ahead.
func TestDeepest(t *testing.T) {
	k := boot(t, 1)
	for place := range api.MaxEnvs - 1 {
		do(t, k, 0, api.NatNew, -1, place, 63-place, 14-place, 0)
	}
	do(t, k, 0, api.NatSelf, -1, 1, 15, 47, 15)
	f, _, code := walk.Read(k, 15, 47)
	if code != api.OK || len(f.Envs) != 15 {
		t.Errorf("P14.1: %d environments, %d", len(f.Envs), code)
	}
	for place, e := range f.Envs {
		if e.Parent != place-1 {
			t.Errorf("P14.1: the parent of %d is %d", place, e.Parent)
		}
	}
	reads(t, "deepest", k, 15, 47)
	freezes(t, "deepest", k, 15, 47, true)
}

func TestNeed(t *testing.T) {
	garbage := api.Forest{Caps: []api.CapRec{{Env: -5, Obj: 99}}, Maps: []api.MapRec{{V: -1}}, Outs: []api.OutRec{{Kind: 7}}}
	needs(t, api.Forest{}, api.Quota{}, 0)
	needs(t, garbage, api.Quota{}, 0)
	needs(t, api.Forest{Pages: make([]api.Page, 3)}, api.Quota{}, 0)
	needs(t, api.Forest{Envs: []api.EnvRec{}, Pages: make([]api.Page, 1)}, api.Quota{}, 0)
	needs(t, api.Forest{Envs: make([]api.EnvRec, 1)}, api.Quota{Envs: 1}, 1)
	needs(t, api.Forest{Envs: make([]api.EnvRec, 1), Pages: make([]api.Page, 1)}, api.Quota{Frames: 1, Envs: 1}, 2)
	needs(t, api.Forest{Envs: make([]api.EnvRec, 9), Pages: make([]api.Page, 70)}, api.Quota{Frames: 1, Envs: 1}, 2)
	odd := []int{0, 1, 5, -1, -7, 1 << 40, math.MaxInt, math.MinInt}
	for i := range len(odd) {
		q := api.Quota{Frames: odd[i], Envs: odd[(i+1)%8], Extents: odd[(i+3)%8]}
		f := garbage
		f.Envs = []api.EnvRec{{Parent: 4, State: 9, Quota: q}, {Parent: 77, Quota: api.Quota{Frames: 100, Envs: 100, Extents: 100}}}
		want := q
		want.Envs++
		needs(t, f, want, 1)
		f.Pages = make([]api.Page, 1+i)
		want.Frames++
		needs(t, f, want, 2)
		if f.Envs[0].Quota != q {
			t.Errorf("P14.6: the forest's quota became %v", f.Envs[0].Quota)
		}
	}
}
