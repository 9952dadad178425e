package walk_test

import (
	"fmt"
	"math"
	"reflect"
	"slices"
	"testing"

	"amber/api"
	"amber/disk"
	"amber/gate"
	"amber/walk"
)

// noise: what environment 0 does beside its trees, whose slots it leaves alone: numbers and serials are used up, some numbers are free again.
func noise(k *gate.Kernel, d *dice, trees ...int) {
	for range d.below(4) {
		slot := d.below(api.MaxSlots)
		switch d.below(4) {
		case 0:
			k.Call(0, request(api.CallAlloc))
		case 1:
			k.Call(0, request(api.CallSpawn, d.below(2), 0, 0))
		default:
			if !slices.Contains(trees, slot) {
				k.Call(0, request(d.of(api.CallDrop, api.CallKill), slot))
			}
		}
	}
}

// withoutSerials: the forest, with nothing told of the outs but their kinds.
func withoutSerials(f api.Forest) api.Forest {
	f.Outs = slices.Clone(f.Outs)
	for i := range f.Outs {
		f.Outs[i].Serial = 0
	}
	return f
}

// twin: a site, and the slot of environment 0 that leads to it.
type twin struct {
	site
	slot int
}

// twins: the same tree planted three times: twice in one kernel, once in another one where much was done ahead of it.
func twins(t *testing.T, seed int) []twin {
	t.Helper()
	one, other := boot(t, 1+seed), boot(t, 1<<40)
	d := dice(seed)
	noise(other, &d)
	noise(other, &d)
	var l []twin
	for i, k := range []*gate.Kernel{one, other, one} {
		s, slot := planted(t, k, seed)
		l = append(l, twin{s, slot})
		if i == 0 {
			noise(one, &d, slot)
		}
	}
	return l
}

// alike holds the forests against each other, but for Outs' serials, where there are outs; how many.
func alike(t *testing.T, where string, l []twin) int {
	t.Helper()
	first, _, _ := walk.Read(l[0].k, 0, l[0].slot)
	dirty, _ := walk.Dirty(l[0].k, 0, l[0].slot)
	for _, s := range l[1:] {
		f, keys, code := walk.Read(s.k, 0, s.slot)
		if code != api.OK || !reflect.DeepEqual(withoutSerials(f), withoutSerials(first)) || len(keys) != len(f.Pages) {
			t.Fatalf("P14.7: %s: %+v, %v, %d, want %+v", where, f, keys, code, first)
		}
		if got, code := walk.Dirty(s.k, 0, s.slot); code != api.OK || !reflect.DeepEqual(got, dirty) {
			t.Fatalf("P14.7: %s: dirty %v, %d, want %v", where, got, code, dirty)
		}
	}
	return len(first.Outs)
}

// TestTheTreeAlone: the same acts at the same places make the same forest, whatever numbers and serials there are.
func TestTheTreeAlone(t *testing.T) {
	whole := 0
	for seed := range 30 {
		l := twins(t, seed)
		d := dice(seed + 7)
		for n := range 60 {
			a := d.act(l[0].site)
			if a.r.Call == api.NatClaim { // an extent is always outside
				continue
			}
			for _, s := range l {
				a.do(s.site)
			}
			noise(l[1].k, &d, l[1].slot)
			if alike(t, fmt.Sprintf("seed %d, act %d: %+v", seed, n, a), l) == 0 {
				whole++
			}
		}
	}
	if whole < 800 {
		t.Errorf("P14.7: only %d forests are without outs", whole)
	}
}

// TestTheTreeWithOuts: likewise, with outside things of all kinds in the lists.
func TestTheTreeWithOuts(t *testing.T) {
	outs := 0
	for seed := range 30 {
		l := twins(t, seed)
		for _, s := range l {
			lend(t, s)
		}
		d := dice(seed + 9)
		for n := range 60 {
			a := d.act(l[0].site)
			for _, s := range l {
				a.do(s.site)
			}
			noise(l[1].k, &d, taken(l[1].k)...)
			outs += alike(t, fmt.Sprintf("seed %d, act %d: %+v", seed, n, a), l)
		}
	}
	if outs < 3000 {
		t.Errorf("P14.7: the forests have only %d outs in all", outs)
	}
}

// lend lays a frame, an extent and an environment of environment 0's into the tree.
func lend(t *testing.T, s twin) {
	t.Helper()
	frame := do(t, s.k, 0, api.CallAlloc)
	extent := do(t, s.k, 0, api.NatClaim, -1)
	other, _ := spawn(t, s.k, 0, 1, 0, 0)
	for place := range len(s.tree()) {
		s.k.Call(0, request(api.NatPlace, frame, s.slot, place, -1, 7))
		s.k.Call(0, request(api.NatPlace, extent, s.slot, place, -1, 7))
		s.k.Call(0, request(api.NatPlace, other, s.slot, place, -1, 7))
	}
}

// taken: the slots of environment 0 that hold something by now.
func taken(k *gate.Kernel) []int {
	var l []int
	for _, c := range k.State().Caps {
		if c.Held.Env == 0 {
			l = append(l, c.Held.Slot)
		}
	}
	return l
}

// pages: those that were seen under a key while they were clean.
type pages map[api.Key]api.Page

// look holds the clean pages of a tree against those that were seen before; how many were.
func (p pages) look(t *testing.T, where string, k *gate.Kernel, env, slot int) int {
	t.Helper()
	f, keys, _ := walk.Read(k, env, slot)
	dirty, _ := walk.Dirty(k, env, slot)
	if len(f.Pages) != len(keys) || len(dirty) != len(keys) {
		t.Fatalf("P14.8: %s: %d pages, %d keys, %d told as dirty or not", where, len(f.Pages), len(keys), len(dirty))
	}
	again := 0
	for class, key := range keys {
		if dirty[class] {
			continue
		}
		was, seen := p[key]
		if seen && was != f.Pages[class] {
			t.Fatalf("P14.8: %s: the page of %v is %v, and was %v", where, key, f.Pages[class], was)
		}
		if seen {
			again++
		}
		p[key] = f.Pages[class]
	}
	return again
}

// TestKeysTellBytes: through whatever is done, by whomever, and behind crashes too.
func TestKeysTellBytes(t *testing.T) {
	again := 0
	for seed := range 30 {
		d := dice(seed)
		m := disk.New()
		k := gate.Boot(m, 1)
		seen := pages{}
		for round := range 3 {
			planted(t, k, seed+round)
			s := site{k: k}
			for n := range 60 {
				d.act(s).do(s)
				env, slot := d.anyEntry(k)
				if d.below(2) == 0 {
					walk.Clean(k, env, slot)
				}
				env, slot = d.anyEntry(k)
				again += seen.look(t, fmt.Sprintf("seed %d, round %d, act %d", seed, round, n), k, env, slot)
			}
			m.Crash(nil)
			k = gate.Boot(m, k.Serial())
		}
	}
	if again < 1000 {
		t.Errorf("P14.8: only %d pages were seen again", again)
	}
}

// TestAWriteIsSeenByItsKey: the same words written again make a frame dirty too; cleaned, it has another key.
func TestAWriteIsSeenByItsKey(t *testing.T) {
	k := full(t)
	do(t, k, 2, api.CallMap, 0, 0, 1)
	walk.Clean(k, 0, 1)
	_, first, _ := walk.Read(k, 0, 1)
	k.Store(2, 3, 0)
	dirties(t, "P14.8: a word that was there", k, 0, 1, false, true)
	_, second, _ := walk.Read(k, 0, 1)
	walk.Clean(k, 0, 1)
	_, third, _ := walk.Read(k, 0, 1)
	if !slices.Equal(first, second) || third[0] != first[0] || third[1].Serial != first[1].Serial || third[1].Mark <= first[1].Mark {
		t.Errorf("P14.8: the keys are %v, %v, %v", first, second, third)
	}
}

// TestClassesAreFrames: two capabilities have one class just if they are on one frame, and one out just if they are on one thing.
func TestClassesAreFrames(t *testing.T) {
	for seed := range 30 {
		d := dice(seed + 50)
		s := site{k: boot(t, 1)}
		planted(t, s.k, seed)
		for n := range 40 {
			d.act(s).do(s)
			env, slot := d.anyEntry(s.k)
			f, _, code := walk.Read(s.k, env, slot)
			if code != api.OK {
				continue
			}
			m, _ := modelOpen(s.k, env, slot, api.Read)
			for i, a := range m.caps {
				for j, b := range m.caps {
					x, y := f.Caps[i], f.Caps[j]
					one := a.Held.Cap.Kind == b.Held.Cap.Kind && a.Held.Cap.Obj == b.Held.Cap.Obj
					if told := x.Kind == y.Kind && x.In == y.In && x.Obj == y.Obj; told != one {
						t.Fatalf("P14.9: seed %d, act %d: %+v and %+v are on %+v and %+v", seed, n, x, y, a.Held, b.Held)
					}
				}
			}
		}
	}
}

// TestWritesAreShared: a word stored through any page is seen in the class of all capabilities on its frame, and nowhere else.
func TestWritesAreShared(t *testing.T) {
	stored := 0
	for seed := range 30 {
		s, slot := planted(t, boot(t, 1), seed)
		want, _, _ := walk.Read(s.k, 0, slot)
		for i, m := range want.Maps {
			word, v := (7*i)%api.PageWords, uint32(1000*seed+i+1)
			if code := s.k.Store(s.tree()[m.Env], uint32(api.PageWords*m.V+word), v); code != api.OK {
				continue
			}
			at := slices.IndexFunc(want.Caps, func(c api.CapRec) bool { return c.Env == m.Env && c.Slot == m.Slot })
			want.Pages[want.Caps[at].Obj][word] = v
			stored++
			if f, _, code := walk.Read(s.k, 0, slot); code != api.OK || !same(f, want) {
				t.Fatalf("P14.9: seed %d, map %+v: %+v, %d, want %+v", seed, m, f, code, want)
			}
		}
	}
	if stored < 50 {
		t.Errorf("P14.9: only %d words were stored", stored)
	}
}

// TestSharedByTwo: two environments write to one frame, each through its own capability; a third frame stays as it is.
func TestSharedByTwo(t *testing.T) {
	k := full(t)
	do(t, k, 2, api.CallMap, 5, 0, 1)
	do(t, k, 1, api.CallMap, 0, 3, 1)
	k.Store(2, 161, 8)
	k.Store(1, 2, 9)
	f, _, _ := walk.Read(k, 0, 1)
	if f.Pages[0] != (api.Page{}) || f.Pages[1] != (api.Page{1: 8, 2: 9}) || f.Caps[3].Obj != 1 || f.Caps[4].Obj != 1 {
		t.Errorf("P14.9: %+v", f)
	}
}

// scribble writes over all that an answer holds, the room behind its lists too.
func scribble(f api.Forest, keys []api.Key, dirty []bool) {
	for i := range f.Envs[:cap(f.Envs)] {
		f.Envs[:cap(f.Envs)][i] = api.EnvRec{Parent: 77, State: 77}
	}
	for i := range f.Caps[:cap(f.Caps)] {
		f.Caps[:cap(f.Caps)][i] = api.CapRec{Env: 77, Obj: 77}
	}
	for i := range f.Maps[:cap(f.Maps)] {
		f.Maps[:cap(f.Maps)][i] = api.MapRec{Env: 77}
	}
	for i := range f.Pages[:cap(f.Pages)] {
		f.Pages[:cap(f.Pages)][i] = api.Page{77, 77}
	}
	for i := range f.Outs[:cap(f.Outs)] {
		f.Outs[:cap(f.Outs)][i] = api.OutRec{Kind: 77}
	}
	for i := range keys[:cap(keys)] {
		keys[:cap(keys)][i] = api.Key{Serial: 77}
	}
	for i := range dirty[:cap(dirty)] {
		dirty[:cap(dirty)][i] = !dirty[:cap(dirty)][i]
	}
}

// TestNewMemory: what is done with one answer touches neither another one nor the kernel.
func TestNewMemory(t *testing.T) {
	for seed := range 10 {
		s, slot := planted(t, boot(t, 1), seed)
		lend(t, twin{s, slot})
		before := s.k.State()
		f, keys, _ := walk.Read(s.k, 0, slot)
		dirty, _ := walk.Dirty(s.k, 0, slot)
		g, keys2, _ := walk.Read(s.k, 0, slot)
		dirty2, _ := walk.Dirty(s.k, 0, slot)
		scribble(f, keys, dirty)
		h, keys3, _ := walk.Read(s.k, 0, slot)
		dirty3, _ := walk.Dirty(s.k, 0, slot)
		if !same(g, h) || !slices.Equal(keys2, keys3) || !slices.Equal(dirty2, dirty3) || g.Envs[0].Parent != -1 || keys2[0].Serial == 77 {
			t.Errorf("P14.11: seed %d: %+v, %v, %v, want %+v, %v, %v", seed, g, keys2, dirty2, h, keys3, dirty3)
		}
		unchanged(t, "P14.11", s.k, before)
	}
}

// TestObjectsApart: what is done in one kernel is not seen in another.
func TestObjectsApart(t *testing.T) {
	a, b := full(t), full(t)
	before := b.State()
	walk.Clean(a, 0, 1)
	walk.Freeze(a, 0, 1, true)
	do(t, a, 1, api.CallAlloc)
	walk.Read(a, 0, 1)
	unchanged(t, "P14.7", b, before)
	dirties(t, "another kernel", b, 0, 1, true, true)
}

// TestOddNumbers: P1: no number makes a call panic.
func TestOddNumbers(t *testing.T) {
	k := full(t)
	odd := []int{math.MinInt, math.MinInt + 1, -1 << 40, -49, -2, -1, 0, 1, 2, 15, 16, 47, 48, 49, 64, 1 << 31, 1 << 40, math.MaxInt - 1, math.MaxInt}
	for _, env := range odd {
		for _, slot := range odd {
			where := fmt.Sprintf("P1: (%d, %d)", env, slot)
			reads(t, where, k, env, slot)
			cleans(t, where, k, env, slot)
			freezes(t, where, k, env, slot, slot > 0)
			refuses(t, nil, env, slot, api.ErrArg)
		}
	}
}
