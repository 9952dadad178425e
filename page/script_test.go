package page_test

import (
	"slices"
	"testing"

	"amber/api"
	"amber/page"
)

// dice: numbers by a fixed rule, so that each run of the test is the same.
type dice uint64

func (d *dice) below(n int) int {
	*d = *d*6364136223846793005 + 1442695040888963407
	return int(uint64(*d)>>33) % n
}

func (d *dice) mix(l []api.Map) {
	for i := range l {
		k := i + d.below(len(l)-i)
		l[i], l[k] = l[k], l[i]
	}
}

// mappings: some pages, each once, in any order, on few slots, so that pages share them.
func (d *dice) mappings() []api.Map {
	var l []api.Map
	for v := range pages {
		if d.below(2) == 0 {
			l = append(l, api.Map{V: v, Slot: d.below(6) * 9, Write: d.below(2) == 0})
		}
	}
	d.mix(l)
	return l
}

// plain is a page table told in the chapter's own words: the mappings, in no order.
type plain []api.Map

func (p plain) at(v int) int {
	return slices.IndexFunc(p, func(m api.Map) bool { return m.V == v })
}

func bad(v, slot int) api.Errno {
	if v < 0 || v > 15 {
		return api.ErrPage
	}
	if slot < 0 || slot > 47 {
		return api.ErrSlot
	}
	return api.OK
}

func (p *plain) lay(v, slot int, write bool) api.Errno {
	if code := bad(v, slot); code != api.OK {
		return code
	}
	if p.at(v) >= 0 {
		return api.ErrMapped
	}
	*p = append(*p, api.Map{V: v, Slot: slot, Write: write})
	return api.OK
}

func (p *plain) change(v int, how func(i int)) api.Errno {
	if code := bad(v, 0); code != api.OK {
		return code
	}
	i := p.at(v)
	if i < 0 {
		return api.ErrUnmapped
	}
	how(i)
	return api.OK
}

func (p *plain) forget(slot int) int {
	n := len(*p)
	*p = slices.DeleteFunc(*p, func(m api.Map) bool { return m.Slot == slot })
	return n - len(*p)
}

func (p *plain) load(l []api.Map) api.Errno {
	var fresh plain
	for _, m := range l {
		if code := fresh.lay(m.V, m.Slot, m.Write); code != api.OK {
			return code
		}
	}
	*p = fresh
	return api.OK
}

// step does one call on both and tells its name, and whether both answered alike.
func step(r *dice, t *page.Table, p *plain) (string, bool) {
	v, slot, write := r.below(pages+2)-1, r.below(6)*10-1, r.below(2) == 0
	switch r.below(8) {
	case 0, 1, 2:
		return "Map", t.Map(v, slot, write) == p.lay(v, slot, write)
	case 3:
		return "Unmap", t.Unmap(v) == p.change(v, func(i int) { *p = slices.Delete(*p, i, i+1) })
	case 4, 5:
		return "Protect", t.Protect(v, write) == p.change(v, func(i int) { (*p)[i].Write = write })
	case 6:
		return "Forget", t.Forget(slot) == p.forget(slot)
	default:
		l := r.mappings()
		if len(l) > 0 && r.below(2) == 0 {
			l[r.below(len(l))] = api.Map{V: v, Slot: slot, Write: write}
		}
		return "Load", t.Load(l) == p.load(l)
	}
}

func TestScriptsOfCalls(t *testing.T) {
	for seed := range 60 {
		r := dice(seed)
		table, p := page.New(), plain{}
		for k := range 300 {
			name, same := step(&r, table, &p)
			want := slices.SortedFunc(slices.Values(p), func(a, b api.Map) int { return a.V - b.V })
			if !same || !slices.Equal(table.Entries(), want) {
				t.Fatalf("P6.1: seed %d, call %d, %s: not what its rule says: %v, want %v", seed, k, name, table.Entries(), want)
			}
		}
	}
}
