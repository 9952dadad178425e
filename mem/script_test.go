package mem_test

import (
	"slices"
	"testing"

	"amber/api"
	"amber/mem"
)

// dice: numbers by a fixed rule, so that each run of the test is the same.
type dice uint64

func (d *dice) below(n int) int {
	*d = *d*6364136223846793005 + 1442695040888963407
	return int(uint64(*d)>>33) % n
}

// plain is a memory told in the chapter's own words: the frames in use by their numbers, each with its words one by one.
type plain struct {
	size  int
	infos map[int]api.Frame
	words map[[2]int]uint32 // those that are not 0, by frame and word
}

func newPlain(size int) *plain {
	return &plain{size: size, infos: map[int]api.Frame{}, words: map[[2]int]uint32{}}
}

func (p *plain) used(f int) bool { _, ok := p.infos[f]; return ok }

func (p *plain) page(f int) (out api.Page) {
	for i := range out {
		out[i] = p.words[[2]int{f, i}]
	}
	return out
}

func (p *plain) lay(f int, page api.Page) {
	for i, v := range page {
		p.words[[2]int{f, i}] = v
	}
	info := p.infos[f]
	info.Dirty = true
	p.infos[f] = info
}

func (p *plain) alloc(serial int) (int, api.Errno) {
	if serial < 1 || serial > maxSerial {
		return -1, api.ErrArg
	}
	for f := range p.size {
		if !p.used(f) {
			p.infos[f] = api.Frame{Serial: serial, Holds: 1}
			p.lay(f, api.Page{})
			return f, api.OK
		}
	}
	return -1, api.ErrNoSpace
}

func (p *plain) held(f, by int) (bool, api.Errno) {
	if !p.used(f) {
		return false, api.ErrFrame
	}
	info := p.infos[f]
	info.Holds += by
	p.infos[f] = info
	if info.Holds == 0 {
		delete(p.infos, f)
	}
	return info.Holds == 0, api.OK
}

func (p *plain) store(f, i int, v uint32) api.Errno {
	if !p.used(f) {
		return api.ErrFrame
	}
	if i < 0 || i > 31 {
		return api.ErrWord
	}
	page := p.page(f)
	page[i] = v
	p.lay(f, page)
	return api.OK
}

func (p *plain) set(f int, page api.Page) api.Errno {
	if !p.used(f) {
		return api.ErrFrame
	}
	p.lay(f, page)
	return api.OK
}

func (p *plain) copy(from, to int) api.Errno {
	if !p.used(from) {
		return api.ErrFrame
	}
	return p.set(to, p.page(from))
}

func (p *plain) same(f, g int) (bool, api.Errno) {
	if !p.used(f) || !p.used(g) {
		return false, api.ErrFrame
	}
	return p.page(f) == p.page(g), api.OK
}

func (p *plain) clean(f, mark int) (bool, api.Errno) {
	if !p.used(f) {
		return false, api.ErrFrame
	}
	if mark < 1 || mark > maxSerial {
		return false, api.ErrArg
	}
	info := p.infos[f]
	if !info.Dirty {
		return false, api.OK
	}
	p.infos[f] = api.Frame{Serial: info.Serial, Holds: info.Holds, Mark: mark}
	return true, api.OK
}

// number: mostly a serial, now and then one that is none.
func (d *dice) number() int {
	if d.below(8) == 0 {
		return noSerials[d.below(len(noSerials))]
	}
	return 1 + d.below(1000)
}

// alike tells whether two answers are one.
func alike[T comparable](a T, e api.Errno, b T, code api.Errno) bool { return a == b && e == code }

// step does one call on both and tells its name, and whether both answered alike.
func step(r *dice, m *mem.Mem, p *plain) (string, bool) {
	f, g := r.below(p.size+3)-1, r.below(p.size+3)-1
	switch r.below(12) {
	case 0, 1:
		serial := r.number()
		a, e := m.Alloc(serial)
		b, code := p.alloc(serial)
		return "Alloc", alike(a, e, b, code)
	case 2:
		_, code := p.held(f, 1)
		return "Hold", m.Hold(f) == code
	case 3, 4:
		a, e := m.Drop(f)
		b, code := p.held(f, -1)
		return "Drop", alike(a, e, b, code)
	case 5, 6:
		i, v := r.below(36)-2, uint32(r.below(3))
		return "Store", m.Store(f, i, v) == p.store(f, i, v)
	case 7:
		page := counting(uint32(r.below(4)))
		return "SetPage", m.SetPage(f, page) == p.set(f, page)
	case 8, 9:
		return "Copy", m.Copy(f, g) == p.copy(f, g)
	case 10:
		a, e := m.Same(f, g)
		b, code := p.same(f, g)
		return "Same", alike(a, e, b, code)
	default:
		mark := r.number()
		a, e := m.Clean(f, mark)
		b, code := p.clean(f, mark)
		return "Clean", alike(a, e, b, code)
	}
}

// told holds all that is told of the memory against the plain one.
func (p *plain) told(m *mem.Mem) bool {
	var live []int
	for f := range p.size {
		info, e := m.Info(f)
		page, code := m.Page(f)
		if !p.used(f) {
			if e != api.ErrFrame || code != api.ErrFrame {
				return false
			}
			continue
		}
		live = append(live, f)
		if info != p.infos[f] || page != p.page(f) {
			return false
		}
	}
	return slices.Equal(m.Live(), live) && m.Free() == p.size-len(live)
}

func TestScriptsOfCalls(t *testing.T) {
	for seed := range 40 {
		r := dice(seed)
		size := r.below(7)
		m, p := mem.New(size), newPlain(size)
		for k := range 400 {
			name, same := step(&r, m, p)
			if !same || !p.told(m) {
				t.Fatalf("P5.10: seed %d, call %d, %s: not what its rule says", seed, k, name)
			}
		}
	}
}
