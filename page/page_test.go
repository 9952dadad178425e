package page_test

import (
	"math"
	"slices"
	"testing"

	"amber/api"
	"amber/page"
)

// The chapter's numbers, written out: a limit that is read wrongly is seen.
const (
	pages = 16
	slots = 48
	words = 32
)

var (
	noPages = []int{math.MinInt, math.MinInt + 15, -1 << 32, -1 << 31, -17, -16, -1, 16, 17, 48, 1 << 31, 1 << 32, 1<<32 + 3, math.MaxInt}
	noSlots = []int{math.MinInt, math.MinInt + 5, -1 << 32, -1 << 31, -48, -1, 48, 49, 64, 1 << 31, 1 << 32, 1<<32 + 5, math.MaxInt}
)

// lay makes a table of these mappings, one by one.
func lay(t *testing.T, l ...api.Map) *page.Table {
	t.Helper()
	p := page.New()
	for _, m := range l {
		if code := p.Map(m.V, m.Slot, m.Write); code != api.OK {
			t.Fatalf("P6.1: Map(%d, %d, %v) = %d, want OK", m.V, m.Slot, m.Write, code)
		}
	}
	return p
}

// full: every page is present; its slot, and whether it may be written, hang on its number.
func full(t *testing.T) *page.Table {
	var l []api.Map
	for v := range pages {
		l = append(l, api.Map{V: v, Slot: v * 7 % slots, Write: v%3 == 0})
	}
	return lay(t, l...)
}

// all tells every page's entry.
func all(t *testing.T, p *page.Table) (out [pages]api.Entry) {
	t.Helper()
	for v := range pages {
		e, code := p.Entry(v)
		if code != api.OK {
			t.Fatalf("P6.1: Entry(%d) = %d, want OK", v, code)
		}
		out[v] = e
	}
	return out
}

func TestNewHasNoPage(t *testing.T) {
	p := page.New()
	if got := all(t, p); got != [pages]api.Entry{} {
		t.Errorf("P6.1: New: entries %v, want all absent", got)
	}
	if l := p.Entries(); len(l) != 0 {
		t.Errorf("P6.1: New: Entries = %v, want none", l)
	}
}

func TestTablesAreApart(t *testing.T) {
	p, q := page.New(), page.New()
	p.Map(3, 4, true)
	if got := all(t, q); got != [pages]api.Entry{} {
		t.Errorf("P6.3: Map of one table changed another: %v", got)
	}
}

func TestMapEveryPageAndSlot(t *testing.T) {
	for v := range pages {
		for slot := range slots {
			for _, write := range []bool{false, true} {
				p := lay(t, api.Map{V: v, Slot: slot, Write: write})
				var want [pages]api.Entry
				want[v] = api.Entry{Present: true, Slot: slot, Write: write}
				if got := all(t, p); got != want {
					t.Fatalf("P6.1: Map(%d, %d, %v): entries %v", v, slot, write, got)
				}
				if l := p.Entries(); !slices.Equal(l, []api.Map{{V: v, Slot: slot, Write: write}}) {
					t.Fatalf("P6.1: Map(%d, %d, %v): Entries = %v", v, slot, write, l)
				}
			}
		}
	}
}

func TestPagesMayShareASlot(t *testing.T) {
	p := page.New()
	for v := range pages {
		if code := p.Map(v, 9, v%2 == 0); code != api.OK {
			t.Errorf("P6.1: Map(%d, 9) = %d, want OK", v, code)
		}
	}
	if n := p.Forget(9); n != pages {
		t.Errorf("P6.1: Forget(9) = %d, want %d", n, pages)
	}
}

// refusals: calls that a table with every page present but 7 refuses.
func refusals() map[string]struct {
	call func(p *page.Table) api.Errno
	want api.Errno
} {
	type row = struct {
		call func(p *page.Table) api.Errno
		want api.Errno
	}
	return map[string]row{
		"Map of a present page":           {func(p *page.Table) api.Errno { return p.Map(0, 6, true) }, api.ErrMapped},
		"Map of what it is already":       {func(p *page.Table) api.Errno { return p.Map(0, 0, true) }, api.ErrMapped},
		"Map to no slot of a present one": {func(p *page.Table) api.Errno { return p.Map(0, 48, true) }, api.ErrSlot},
		"Map of no page to no slot":       {func(p *page.Table) api.Errno { return p.Map(-1, 99, true) }, api.ErrPage},
		"Unmap of an absent page":         {func(p *page.Table) api.Errno { return p.Unmap(7) }, api.ErrUnmapped},
		"Protect of an absent page":       {func(p *page.Table) api.Errno { return p.Protect(7, true) }, api.ErrUnmapped},
		"Protect to false of an absent":   {func(p *page.Table) api.Errno { return p.Protect(7, false) }, api.ErrUnmapped},
		"Load with a page twice":          {func(p *page.Table) api.Errno { return p.Load([]api.Map{{V: 4}, {V: 4, Slot: 1}, {V: 99}}) }, api.ErrMapped},
		"Load with a slot ahead of a page": {func(p *page.Table) api.Errno {
			return p.Load([]api.Map{{V: 4, Slot: 48}, {V: -1}})
		}, api.ErrSlot},
		"Load with a page ahead of a slot": {func(p *page.Table) api.Errno {
			return p.Load([]api.Map{{V: 4, Slot: 47}, {V: 16}, {V: 5, Slot: 48}})
		}, api.ErrPage},
		"Load with both in one":         {func(p *page.Table) api.Errno { return p.Load([]api.Map{{V: 16, Slot: 48}}) }, api.ErrPage},
		"Load with a slot, page twice":  {func(p *page.Table) api.Errno { return p.Load([]api.Map{{V: 4}, {V: 4, Slot: -1}}) }, api.ErrSlot},
		"Load with one twice, far away": {func(p *page.Table) api.Errno { return p.Load([]api.Map{{V: 15}, {V: 1}, {V: 2}, {V: 15}}) }, api.ErrMapped},
		"Load with the same twice":      {func(p *page.Table) api.Errno { return p.Load([]api.Map{{V: 3, Slot: 3}, {V: 3, Slot: 3}}) }, api.ErrMapped},
	}
}

func TestRefusedIsUnchanged(t *testing.T) {
	for name, c := range refusals() {
		p := full(t)
		p.Unmap(7)
		before := all(t, p)
		if code := c.call(p); code != c.want {
			t.Errorf("P6.1: %s = %d, want %d", name, code, c.want)
		}
		if all(t, p) != before {
			t.Errorf("P6.3: %s was refused and changed the table", name)
		}
	}
}

func TestNumbersOfNoPage(t *testing.T) {
	p := full(t)
	before := all(t, p)
	for _, v := range noPages {
		if code := p.Map(v, 0, true); code != api.ErrPage {
			t.Errorf("P6.1: Map(%d) = %d, want ErrPage", v, code)
		}
		if code := p.Unmap(v); code != api.ErrPage {
			t.Errorf("P6.1: Unmap(%d) = %d, want ErrPage", v, code)
		}
		if code := p.Protect(v, true); code != api.ErrPage {
			t.Errorf("P6.1: Protect(%d) = %d, want ErrPage", v, code)
		}
		if e, code := p.Entry(v); e != (api.Entry{}) || code != api.ErrPage {
			t.Errorf("P6.1: Entry(%d) = %v, %d, want the zero Entry, ErrPage", v, e, code)
		}
		if code := p.Load([]api.Map{{V: v}}); code != api.ErrPage {
			t.Errorf("P6.1: Load with page %d = %d, want ErrPage", v, code)
		}
	}
	if all(t, p) != before {
		t.Errorf("P6.3: a refused call changed the table")
	}
}

func TestNumbersOfNoSlot(t *testing.T) {
	p := full(t)
	p.Unmap(7)
	before := all(t, p)
	for _, slot := range noSlots {
		if code := p.Map(7, slot, true); code != api.ErrSlot {
			t.Errorf("P6.1: Map(7, %d) = %d, want ErrSlot", slot, code)
		}
		if n := p.Forget(slot); n != 0 {
			t.Errorf("P6.1: Forget(%d) = %d, want 0", slot, n)
		}
		if code := p.Load([]api.Map{{V: 7, Slot: slot}}); code != api.ErrSlot {
			t.Errorf("P6.1: Load with slot %d = %d, want ErrSlot", slot, code)
		}
	}
	if all(t, p) != before {
		t.Errorf("P6.3: a refused call changed the table")
	}
}

func TestUnmapIsOnePage(t *testing.T) {
	for v := range pages {
		p := full(t)
		want := all(t, p)
		want[v] = api.Entry{}
		if code := p.Unmap(v); code != api.OK {
			t.Errorf("P6.1: Unmap(%d) = %d, want OK", v, code)
		}
		if all(t, p) != want {
			t.Errorf("P6.3: Unmap(%d): not that page alone went", v)
		}
		if code := p.Unmap(v); code != api.ErrUnmapped {
			t.Errorf("P6.1: Unmap(%d) again = %d, want ErrUnmapped", v, code)
		}
		if code := p.Map(v, 0, false); code != api.OK {
			t.Errorf("P6.1: Map(%d) behind Unmap = %d, want OK", v, code)
		}
		want[v] = api.Entry{Present: true}
		if all(t, p) != want {
			t.Errorf("P6.3: Map(%d) behind Unmap: something of before is left, or another page changed", v)
		}
	}
}

func TestProtectIsOnePage(t *testing.T) {
	for v := range pages {
		p := full(t)
		want := all(t, p)
		for _, write := range []bool{true, true, false, false, true} {
			want[v].Write = write
			if code := p.Protect(v, write); code != api.OK {
				t.Errorf("P6.1: Protect(%d, %v) = %d, want OK", v, write, code)
			}
			if all(t, p) != want {
				t.Errorf("P6.3: Protect(%d, %v): not that page's Write alone changed", v, write)
			}
		}
	}
}

func TestForgetIsOneSlot(t *testing.T) {
	l := []api.Map{{V: 1, Slot: 0}, {V: 4, Slot: 0, Write: true}, {V: 15, Slot: 47, Write: true}, {V: 8, Slot: 5}, {V: 2, Slot: 5}, {V: 0, Slot: 5, Write: true}}
	for slot := range slots {
		p := lay(t, l...)
		want, n := all(t, p), 0
		for _, m := range l {
			if m.Slot == slot {
				want[m.V], n = api.Entry{}, n+1
			}
		}
		if got := p.Forget(slot); got != n {
			t.Errorf("P6.1: Forget(%d) = %d, want %d", slot, got, n)
		}
		if all(t, p) != want {
			t.Errorf("P6.3: Forget(%d): not the pages of that slot alone went", slot)
		}
		if got := p.Forget(slot); got != 0 {
			t.Errorf("P6.1: Forget(%d) again = %d, want 0", slot, got)
		}
	}
}

func TestEntriesRise(t *testing.T) {
	p := lay(t, api.Map{V: 15, Slot: 1}, api.Map{V: 0, Slot: 9, Write: true}, api.Map{V: 7, Slot: 1})
	want := []api.Map{{V: 0, Slot: 9, Write: true}, {V: 7, Slot: 1}, {V: 15, Slot: 1}}
	got := p.Entries()
	if !slices.Equal(got, want) {
		t.Errorf("P6.1: Entries = %v, want %v", got, want)
	}
	for i := range got[:cap(got)] {
		got[:cap(got)][i] = api.Map{V: 3, Slot: 3, Write: true}
	}
	if again := p.Entries(); !slices.Equal(again, want) {
		t.Errorf("P6.1: Entries is not new memory: the table tells %v", again)
	}
}

func TestLoadTakesAllOrNone(t *testing.T) {
	for seed := range 60 {
		r := dice(seed)
		p := full(t)
		l := r.mappings()
		given := slices.Clone(l)
		if code := p.Load(l); code != api.OK {
			t.Fatalf("P6.1: Load(%v) = %d, want OK", l, code)
		}
		if !slices.Equal(l, given) {
			t.Fatalf("P6.1: Load changed its list: %v, was %v", l, given)
		}
		for i := range l {
			l[i] = api.Map{V: 1, Slot: 1}
		}
		if got := all(t, p); got != all(t, lay(t, given...)) {
			t.Fatalf("P6.3: Load(%v): entries %v", given, got)
		}
	}
	for _, l := range [][]api.Map{nil, {}} {
		p := full(t)
		if code := p.Load(l); code != api.OK || len(p.Entries()) != 0 {
			t.Errorf("P6.1: Load of nothing = %d, Entries %v", code, p.Entries())
		}
	}
}

func TestEveryAddress(t *testing.T) {
	p := full(t)
	p.Unmap(0)
	p.Unmap(11)
	for addr := range uint32(pages * words) {
		e, _ := p.Entry(int(addr) / words)
		for _, write := range []bool{false, true} {
			slot, word, want := e.Slot, int(addr)%words, api.OK
			if !e.Present {
				slot, word, want = 0, 0, api.ErrUnmapped
			} else if write && !e.Write {
				slot, word, want = 0, 0, api.ErrReadOnly
			}
			if s, w, code := p.Translate(addr, write); s != slot || w != word || code != want {
				t.Errorf("P6.1: Translate(%d, %v) = %d, %d, %d, want %d, %d, %d", addr, write, s, w, code, slot, word, want)
			}
		}
	}
}

func TestAddressesInNoPage(t *testing.T) {
	p := full(t)
	for _, addr := range []uint32{512, 513, 543, 1023, 1024, 1 << 16, 1<<16 + 3, 1<<31 - 1, 1 << 31, 1<<31 + 1, 1<<32 - 512, 1<<32 - 32, 1<<32 - 1} {
		for _, write := range []bool{false, true} {
			if s, w, code := p.Translate(addr, write); s != 0 || w != 0 || code != api.ErrPage {
				t.Errorf("P6.1: Translate(%d, %v) = %d, %d, %d, want 0, 0, ErrPage", addr, write, s, w, code)
			}
		}
	}
}

func TestFoundForWriting(t *testing.T) {
	for seed := range 20 {
		r := dice(seed)
		p := lay(t, r.mappings()...)
		for addr := range uint32(pages*words + words) {
			slot, word, reads := p.Translate(addr, false)
			s, w, writes := p.Translate(addr, true)
			e, _ := p.Entry(int(addr) / words)
			if (writes == api.OK) != (reads == api.OK && e.Write) {
				t.Fatalf("P6.2: address %d: for reading %d, for writing %d, Write %v", addr, reads, writes, e.Write)
			}
			if writes == api.OK && (s != slot || w != word) {
				t.Fatalf("P6.2: address %d: for reading at %d, %d, for writing at %d, %d", addr, slot, word, s, w)
			}
		}
	}
}

func TestEqualLooksAtEveryEntry(t *testing.T) {
	p := full(t)
	p.Unmap(7)
	if p.Equal(nil) || !p.Equal(p) {
		t.Errorf("P6.1: Equal(nil) = %v, Equal of itself = %v", p.Equal(nil), p.Equal(p))
	}
	for v := range pages {
		changes := []func(q *page.Table){
			func(q *page.Table) { q.Unmap(v); q.Map(v, 40, v%3 == 0) },
			func(q *page.Table) { e, _ := q.Entry(v); q.Protect(v, !e.Write); q.Map(v, 0, true) },
			func(q *page.Table) {
				if q.Unmap(v) != api.OK {
					q.Map(v, 0, false)
				}
			},
		}
		for i, change := range changes {
			q := full(t)
			q.Unmap(7)
			if !p.Equal(q) || !q.Equal(p) {
				t.Errorf("P6.1: equal tables are not Equal")
			}
			change(q)
			if p.Equal(q) || q.Equal(p) {
				t.Errorf("P6.1: Equal does not see change %d of page %d", i, v)
			}
		}
	}
}

func TestEqualForgetsHowItCame(t *testing.T) {
	p, q := page.New(), lay(t, api.Map{V: 4, Slot: 9, Write: true}, api.Map{V: 5, Slot: 9})
	q.Unmap(4)
	q.Forget(9)
	if !p.Equal(q) || !q.Equal(p) {
		t.Errorf("P6.1: absent pages are not equal, whatever they were before")
	}
}

func TestEntriesAreTheTable(t *testing.T) {
	for seed := range 60 {
		r := dice(seed)
		p, q := lay(t, r.mappings()...), lay(t, r.mappings()...)
		l := p.Entries()
		r.mix(l)
		if code := q.Load(l); code != api.OK || !p.Equal(q) || !q.Equal(p) {
			t.Fatalf("P6.4: Load(%v) = %d, Equal %v: entries %v, %v", l, code, p.Equal(q), all(t, p), all(t, q))
		}
	}
}
