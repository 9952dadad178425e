package restore_test

import (
	"fmt"
	"slices"
	"testing"

	"amber/api"
	"amber/ckpt"
	"amber/gate"
	"amber/image"
	"amber/walk"
)

// makeRoom ends the trees of environment 0's that are in the way of one more; how many.
func makeRoom(t *testing.T, k *gate.Kernel, keep []int) int {
	t.Helper()
	n := 0
	for _, h := range held(k, 0, api.KindEnv) {
		if tree, _ := k.Tree(0); slices.Contains(keep, h.Slot) || h.Cap.Rights != 15 || !slices.Contains(tree, h.Cap.Obj) {
			continue
		}
		do(t, k, 0, api.CallKill, h.Slot)
		n++
	}
	return n
}

// TestLivingTrees: P18.2: trees live, are built anew in the name of environment 0 or another, and live on.
func TestLivingTrees(t *testing.T) {
	seen := map[string]int{}
	for seed := range 50 {
		d := dice(seed)
		m := newMachine()
		plant(t, m.k, &d)
		var keep []int
		for _, h := range held(m.k, 0, api.KindEnv) {
			keep = append(keep, h.Slot)
		}
		for round := range 20 {
			live(m.k, &d, d.below(20))
			env, slot := d.anyTree(m.k)
			if env < 0 {
				break
			}
			f := read(t, m.k, env, slot)
			caller := d.of(0, 0, 0, env, d.below(8))
			got, code := m.build(t, fmt.Sprintf("seed %d, round %d", seed, round), caller, f)
			seen[fmt.Sprint("code ", int(code))]++
			if code == api.OK {
				count(seen, f)
				live(m.k, &d, d.below(6))
			}
			if code == api.OK && d.one(2) {
				m.k.Call(caller, request(api.CallKill, got))
			}
			if code == api.ErrNoSpace && caller == 0 {
				makeRoom(t, m.k, keep)
			}
		}
	}
	for what, least := range map[string]int{"code 0": 300, "code 2": 100, "code 3": 15, "code 90": 5, "environments": 500, "derived": 200, "outs": 100, "pages": 500, "maps": 500, "shared": 50} {
		if seen[what] < least {
			t.Errorf("P18.2: %s: only %d", what, seen[what])
		}
	}
}

// count: what a forest has.
func count(seen map[string]int, f api.Forest) {
	seen["environments"] += len(f.Envs)
	seen["outs"] += len(f.Outs)
	seen["pages"] += len(f.Pages)
	seen["maps"] += len(f.Maps)
	holders := map[int]int{}
	for _, c := range f.Caps {
		if c.From != none {
			seen["derived"]++
		}
		if c.In && c.Kind == api.KindFrame {
			holders[c.Obj]++
		}
		if !c.In && c.From == none {
			seen["given"]++
		}
	}
	for _, n := range holders {
		if n > 1 {
			seen["shared"]++
		}
	}
}

// host: a machine whose environment 0 has things of all kinds to lend, with many rights, and room for a tree.
func host(t *testing.T, d *dice) machine {
	t.Helper()
	m := newMachine()
	for range 3 {
		lent := []int{do(t, m.k, 0, api.CallAlloc), do(t, m.k, 0, api.NatClaim, -1), do(t, m.k, 0, api.CallSpawn, 0, 0, 0), do(t, m.k, 0, api.NatSelf, -1, 0, 0, -1, 15)}
		for range 3 {
			m.k.Call(0, request(api.CallDerive, d.of(lent...), d.rights()))
		}
		if d.one(3) {
			do(t, m.k, 0, api.CallDrop, lent[0])
		}
	}
	return m
}

// TestGrownForests: P18.2: forests that nobody ever read, with outs of the caller's.
func TestGrownForests(t *testing.T) {
	seen := map[string]int{}
	for seed := range 400 {
		d := dice(seed)
		m := host(t, &d)
		f := grown(&d, lendable(m.k, 0))
		if err := image.Valid(f); err != nil {
			t.Fatalf("seed %d: %v: %+v", seed, err, f)
		}
		_, code := m.build(t, fmt.Sprint("seed ", seed), 0, f)
		seen[fmt.Sprint("code ", int(code))]++
		if code == api.OK {
			count(seen, f)
		}
	}
	for what, least := range map[string]int{"code 0": 250, "environments": 600, "derived": 300, "outs": 300, "given": 400, "pages": 1000, "maps": 300, "shared": 200} {
		if seen[what] < least {
			t.Errorf("P18.2: %s: only %d", what, seen[what])
		}
	}
}

// TestSpoiltForests: P18.4: an adversary's forests: whatever is built is the caller's own.
func TestSpoiltForests(t *testing.T) {
	codes := map[api.Errno]int{}
	for seed := range 1500 {
		d := dice(seed)
		m := host(t, &d)
		do(t, m.k, 0, api.CallSpawn, d.of(0, 9, 30), 0, 0)
		f := grown(&d, lendable(m.k, 0))
		for range 1 + d.below(2) {
			f = spoilt(&d, f)
		}
		_, code := m.build(t, fmt.Sprint("seed ", seed), d.of(0, 0, 0, 0, 1, 7), f)
		codes[code]++
	}
	for _, code := range []api.Errno{api.OK, api.ErrEnv, api.ErrImage, api.ErrNoSpace, api.ErrStaleCap} {
		if codes[code] < 50 {
			t.Errorf("P18.4: Build answered %d only %d times", int(code), codes[code])
		}
	}
}

// TestGivers: P18.6: each that stands alone outside has the lowest slot that will do, found by itself.
func TestGivers(t *testing.T) {
	for kind, call := range map[int][]int{api.KindFrame: {api.CallAlloc}, api.KindExtent: {api.NatClaim, -1}, api.KindEnv: {api.CallSpawn, 0, 0, 0}} {
		m := newMachine()
		thing := do(t, m.k, 0, call[0], call[1:]...)
		serial := m.k.SerialOf(0, thing)
		for slot, rights := range []int{11, 3, 4, 5, 6, 7, 5, 15} { // in the slots 1 to 8
			if got := do(t, m.k, 0, api.CallDerive, thing, rights); got != slot+1 {
				t.Fatalf("the slot %d", got)
			}
		}
		do(t, m.k, 0, api.CallDrop, thing)
		f := api.Forest{
			Envs: []api.EnvRec{{Parent: -1, Frozen: true, Quota: api.Quota{Frames: 20, Extents: 20}}},
			Outs: []api.OutRec{{Kind: kind, Serial: serial}},
		}
		from := map[int]int{0: 3, 1: 4, 2: 5, 3: 6, 4: 3, 5: 4, 6: 5, 7: 6}
		if kind != api.KindFrame {
			from[8], from[12], from[15] = 8, 8, 8
		}
		for rights := range 16 {
			if from[rights] > 0 {
				f.Caps = append(f.Caps, api.CapRec{Slot: rights, Kind: kind, Rights: rights, From: none})
			}
		}
		// Derived inside: it needs no giver, whatever the caller has.
		f.Caps = append(f.Caps, api.CapRec{Slot: 40, Kind: kind, Rights: 3, From: api.Place{Slot: 7}})
		slot := m.builds(t, fmt.Sprint("P18.6: givers of kind ", kind), 0, f)
		made := envAt(m.k, 0, slot)
		for rights, giver := range from {
			if c := at(m, made, rights); c.From != (api.Place{Env: 0, Slot: giver}) || c.Held.Cap.Rights != rights {
				t.Errorf("P18.6: kind %d: %+v, want it from slot %d", kind, c, giver)
			}
		}
		if c := at(m, made, 40); c.From != (api.Place{Env: made, Slot: 7}) {
			t.Errorf("P18.6: kind %d: %+v", kind, c)
		}
		do(t, m.k, 0, api.CallKill, slot)
		m.withoutGivers(t, kind, f)
	}
}

// withoutGivers: the slots 1 to 8 go one by one, the greatest first, and with them those that may be given.
func (m machine) withoutGivers(t *testing.T, kind int, f api.Forest) {
	t.Helper()
	for slot := 8; slot >= 1; slot-- {
		do(t, m.k, 0, api.CallDrop, slot)
		for _, c := range f.Caps {
			g := cloned(f)
			c.Slot, c.From = 0, none
			g.Caps = []api.CapRec{c}
			can := slices.ContainsFunc(held(m.k, 0, kind), func(h api.Held) bool { return h.Cap.Rights&4 != 0 && c.Rights&^h.Cap.Rights == 0 })
			what := fmt.Sprintf("P18.6: kind %d, rights %d, without the slots from %d on", kind, c.Rights, slot)
			if !can {
				m.refuses(t, what, 0, g, api.ErrStaleCap)
				continue
			}
			do(t, m.k, 0, api.CallKill, m.builds(t, what, 0, g))
		}
	}
}

// TestStale: P18.6: the thing outside is gone, for whatever reason, or its number is another's by now.
func TestStale(t *testing.T) {
	makers := map[int][]int{api.KindFrame: {api.CallAlloc}, api.KindExtent: {api.NatClaim, -1}, api.KindEnv: {api.CallSpawn, 1, 0, 0}}
	for kind, call := range makers {
		m := newMachine()
		thing := do(t, m.k, 0, call[0], call[1:]...)
		tree := do(t, m.k, 0, api.CallSpawn, 4, 2, 2)
		do(t, m.k, 0, api.CallGrant, thing, tree, 7)
		s := opened(t, m.k, 0, 31)
		saved(t, m.k, s, 0, tree, true)
		f := read(t, m.k, 0, tree)
		slot, code := m.restore(t, "there", m.k, s, 0)
		if code != api.OK || !same(read(t, m.k, 0, slot), f) {
			t.Fatalf("P18.6: kind %d, there: %d", kind, code)
		}
		do(t, m.k, 0, api.CallKill, slot)
		// The tree's own capability is none of the caller's.
		last := api.CallDrop
		if kind == api.KindEnv {
			last = api.CallKill
		}
		do(t, m.k, 0, last, thing)
		m.refusesRestore(t, "P18.6: the caller has none", m.k, s, 0, api.ErrStaleCap)
		do(t, m.k, 0, api.CallKill, tree)
		m.refusesRestore(t, "P18.6: gone", m.k, s, 0, api.ErrStaleCap)
		do(t, m.k, 0, call[0], call[1:]...)
		m.refusesRestore(t, "P18.6: another has its number", m.k, s, 0, api.ErrStaleCap)
		m = m.rebooted()
		do(t, m.k, 0, call[0], call[1:]...)
		m.refusesRestore(t, "P18.6: behind a crash", m.k, opened(t, m.k, 0, 31), 0, api.ErrStaleCap)
	}
}

// TestSerialsToCome: P18.4: an out that names what the Build itself would make has no giver.
func TestSerialsToCome(t *testing.T) {
	for kind := 1; kind <= 2; kind++ {
		for ahead := range 6 {
			m := newMachine()
			do(t, m.k, 0, api.CallAlloc)
			f := api.Forest{
				Envs: []api.EnvRec{{Parent: -1, Frozen: true, Quota: api.Quota{Frames: 9, Envs: 1}}, {}},
				Caps: []api.CapRec{
					{Slot: 0, Kind: 1, Rights: 15, In: true, From: none},
					{Slot: 1, Kind: 1, Rights: 15, In: true, Obj: 1, From: none},
					{Slot: 2, Kind: kind, Rights: 0, From: none},
				},
				Pages: make([]api.Page, 2),
				Outs:  []api.OutRec{{Kind: kind, Serial: m.k.Serial() + ahead}},
			}
			m.refuses(t, fmt.Sprintf("P18.6: kind %d, %d ahead", kind, ahead), 0, f, api.ErrStaleCap)
		}
	}
}

// TestKindAndSerial: P18.6: a thing of that serial, but of another kind, gives nothing.
func TestKindAndSerial(t *testing.T) {
	m := newMachine()
	do(t, m.k, 0, api.CallAlloc)
	do(t, m.k, 0, api.CallSpawn, 0, 0, 0)
	do(t, m.k, 0, api.NatClaim, -1)
	for slot := range 3 {
		for kind := 1; kind <= 3; kind++ {
			f := api.Forest{
				Envs: []api.EnvRec{{Parent: -1, Frozen: true, Quota: api.Quota{Frames: 1, Extents: 1}}},
				Caps: []api.CapRec{{Kind: kind, Rights: 1, From: none}},
				Outs: []api.OutRec{{Kind: kind, Serial: m.k.SerialOf(0, slot)}},
			}
			if slot+1 == kind {
				do(t, m.k, 0, api.CallKill, m.builds(t, "its kind", 0, f))
			} else {
				m.refuses(t, "P18.6: another kind", 0, f, api.ErrStaleCap)
			}
		}
	}
}

// roomy: forests that need something of everything, with and without classes.
func roomy() []api.Forest {
	q := api.Quota{Frames: 5, Envs: 2, Extents: 3}
	plain := api.Forest{Envs: []api.EnvRec{{Parent: -1, Frozen: true, Quota: q}}}
	paged := cloned(plain)
	paged.Caps = []api.CapRec{{Kind: 1, Rights: 15, In: true, From: none}, {Slot: 5, Kind: 1, Rights: 8, In: true, Obj: 1, From: none}}
	paged.Pages = []api.Page{{1}, {2}}
	deep := cloned(paged)
	deep.Envs = append(deep.Envs, api.EnvRec{Quota: api.Quota{Frames: 3, Envs: 1, Extents: 3}}, api.EnvRec{Parent: 1, Quota: api.Quota{Frames: 1, Extents: 2}})
	deep.Caps = append(deep.Caps, api.CapRec{Env: 2, Slot: 47, Kind: 1, Rights: 4, In: true, From: api.Place{}})
	return []api.Forest{plain, paged, deep}
}

// TestRoom: P18.5: with just what Need tells it is built, with one less of any part it is not.
func TestRoom(t *testing.T) {
	for n, f := range roomy() {
		need, slots := walk.Need(f)
		for part := -1; part < 4; part++ {
			q, free, want := need, slots, api.OK
			if part >= 0 {
				*[]*int{&q.Frames, &q.Envs, &q.Extents, &free}[part]--
				want = api.ErrNoSpace
			}
			m := newMachine()
			do(t, m.k, 0, api.CallSpawn, q.Frames, q.Envs, q.Extents)
			for range api.MaxSlots - free {
				do(t, m.k, 1, api.NatSelf, -1, 0, 0, -1, 0)
			}
			what := fmt.Sprintf("P18.5: forest %d, part %d less", n, part)
			if slot, code := m.build(t, what, 1, f); code != want || want == api.OK && left(m.k, 1) != (api.Quota{Frames: need.Frames - 5}) {
				t.Errorf("%s: Build = %d, %d, want %d; left %v", what, slot, code, want, left(m.k, 1))
			}
			roomOfARestore(t, what, f, part, want)
		}
	}
}

// roomOfARestore: the same of a Restore, whose store takes extents and slots of the caller's too.
func roomOfARestore(t *testing.T, what string, f api.Forest, part int, want api.Errno) {
	t.Helper()
	m := newMachine()
	s := opened(t, m.k, 0, 31)
	slot := m.builds(t, what, 0, f)
	if _, code := ckpt.Checkpoint(m.k, s, 0, slot, true); code != api.OK {
		t.Fatalf("%s: Checkpoint: %d", what, code)
	}
	do(t, m.k, 0, api.CallKill, slot)
	need, slots := walk.Need(f)
	now := m.k.Call(0, request(api.NatLeft)).V
	over := [4]int{now[0] - need.Frames, now[1] - need.Envs - 1, now[2] - need.Extents, now[3] - slots - 1}
	if part >= 0 {
		over[part]++
	}
	do(t, m.k, 0, api.CallSpawn, over[0], over[1], over[2])
	for range over[3] {
		do(t, m.k, 0, api.NatSelf, -1, 0, 0, -1, 0)
	}
	if slot, code := m.restore(t, what, m.k, s, 0); code != want {
		t.Errorf("%s: Restore = %d, %d, want %d", what, slot, code, want)
	}
}

// TestRestoredIsFrozen: P18.2: trees live, are checkpointed, live on or end, and are restored.
func TestRestoredIsFrozen(t *testing.T) {
	codes := map[api.Errno]int{}
	for seed := range 40 {
		d := dice(seed)
		m := newMachine()
		s := opened(t, m.k, 0, 31)
		plant(t, m.k, &d)
		var keep []int
		for _, h := range held(m.k, 0, api.KindEnv) {
			keep = append(keep, h.Slot)
		}
		for round := range 10 {
			live(m.k, &d, d.below(20))
			slot := d.slot(m.k, 0, api.KindEnv)
			f, _, code := walk.Read(m.k, 0, slot)
			if _, no := ckpt.Checkpoint(m.k, s, 0, slot, d.one(4)); code != api.OK || no != api.OK {
				continue
			}
			live(m.k, &d, d.below(10))
			if d.one(4) {
				m.k.Call(0, request(api.CallKill, slot))
			}
			what := fmt.Sprintf("seed %d, round %d", seed, round)
			got, code := m.restore(t, what, m.k, s, 0)
			if code == api.ErrNoSpace {
				makeRoom(t, m.k, keep)
				got, code = m.restore(t, what, m.k, s, 0)
			}
			codes[code]++
			if code == api.OK {
				m.looksAs(t, what, 0, got, f)
			}
		}
	}
	if codes[api.OK] < 150 || codes[api.ErrStaleCap] < 10 {
		t.Errorf("P18.2: the codes %v", codes)
	}
}

// TestAnotherKernel: P18.7: what is durable suffices, if there are no outs.
func TestAnotherKernel(t *testing.T) {
	woken, stale := 0, 0
	for seed := range 60 {
		d := dice(seed)
		m := newMachine()
		s := opened(t, m.k, 0, 31)
		slot, code := m.build(t, "the first", 0, grown(&d, nil))
		if code != api.OK {
			continue
		}
		for range d.below(4) {
			saved(t, m.k, s, 0, slot, false)
			live(m.k, &d, 8)
		}
		f := read(t, m.k, 0, slot)
		saved(t, m.k, s, 0, slot, false)
		live(m.k, &d, 8)
		for _, o := range []machine{m.copied(t), m.copied(t).copied(t), m.rebooted()} {
			// Nothing need be as it was: other things have the numbers.
			do(t, o.k, 0, api.CallAlloc)
			do(t, o.k, 0, api.CallSpawn, 1, 0, 0)
			got, code := o.restore(t, fmt.Sprint("seed ", seed), o.k, opened(t, o.k, 0, 31), 0)
			switch {
			case len(f.Outs) > 0 && code == api.ErrStaleCap:
				stale++
			case len(f.Outs) > 0 || code != api.OK:
				t.Fatalf("P18.7: seed %d: outs %v: Restore: %d", seed, f.Outs, code)
			default:
				o.looksAs(t, fmt.Sprint("P18.7: seed ", seed), 0, got, f)
				woken++
			}
		}
	}
	if woken < 120 {
		t.Errorf("P18.7: only %d trees were woken, %d had outs", woken, stale)
	}
}
