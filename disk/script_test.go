package disk_test

import (
	"bytes"
	"slices"
	"testing"

	"amber/api"
	"amber/disk"
)

// plain is a disk told in the chapter's own words, without regard to cost: no cache is laid but by going through it all.
type plain struct {
	medium  map[int][]byte
	sectors []int
	datas   [][]byte
	acts    int
	left    int // -1: not armed
	down    bool
}

func newPlain() *plain { return &plain{medium: map[int][]byte{}, left: -1} }

func (p *plain) lying(sector int) []byte {
	if b, ok := p.medium[sector]; ok {
		return b
	}
	return make([]byte, 128)
}

func (p *plain) read(sector int) ([]byte, api.Errno) {
	if sector < 0 || sector >= 1024 {
		return nil, api.ErrSector
	}
	if p.down {
		return nil, api.ErrDown
	}
	b := p.lying(sector)
	for i, s := range p.sectors {
		if s == sector {
			b = p.datas[i]
		}
	}
	return b, api.OK
}

func (p *plain) act() bool {
	if p.down || p.left == 0 {
		p.down = true
		return false
	}
	if p.left > 0 {
		p.left--
	}
	p.acts++
	return true
}

func (p *plain) write(sector int, data []byte) api.Errno {
	switch {
	case sector < 0 || sector >= 1024:
		return api.ErrSector
	case len(data) != 128:
		return api.ErrSize
	case !p.act():
		return api.ErrDown
	}
	p.sectors = append(p.sectors, sector)
	p.datas = append(p.datas, slices.Clone(data))
	return api.OK
}

func (p *plain) flush() api.Errno {
	if !p.act() {
		return api.ErrDown
	}
	p.empty(slices.Repeat([]bool{true}, len(p.sectors)))
	return api.OK
}

func (p *plain) empty(keep []bool) int {
	kept := 0
	for i := range min(len(keep), len(p.sectors)) {
		if keep[i] {
			p.medium[p.sectors[i]] = p.datas[i]
			kept++
		}
	}
	p.sectors, p.datas = nil, nil
	return kept
}

func (p *plain) crash(keep []bool) int {
	p.down, p.left = false, -1
	return p.empty(keep)
}

func (p *plain) arm(n int) api.Errno {
	switch {
	case n < 0:
		return api.ErrArg
	case p.down:
		return api.ErrDown
	}
	p.left = n
	return api.OK
}

func (p *plain) edit(sector, at int, data []byte) api.Errno {
	switch {
	case sector < 0 || sector >= 1024:
		return api.ErrSector
	case at < 0 || at+len(data) > 128:
		return api.ErrArg
	}
	b := slices.Clone(p.lying(sector))
	copy(b[at:], data)
	p.medium[sector] = b
	return api.OK
}

// dice: numbers by a fixed rule, so that each run of the test is the same.
type dice uint64

func (d *dice) below(n int) int {
	*d = *d*6364136223846793005 + 1442695040888963407
	return int(uint64(*d)>>33) % n
}

func (d *dice) bytes(n int) []byte {
	out := make([]byte, n)
	for i := range out {
		out[i] = byte(d.below(256))
	}
	return out
}

func (d *dice) keep(n int) []bool {
	out := make([]bool, n)
	for i := range out {
		out[i] = d.below(2) == 1
	}
	return out
}

// sector: mostly one of a few, now and then an edge or one beyond it.
func (d *dice) sector() int {
	if d.below(8) == 0 {
		return []int{-1, 0, 1023, 1024}[d.below(4)]
	}
	return 30 + d.below(5)
}

// size: mostly that of a sector.
func (d *dice) size() int {
	if d.below(8) == 0 {
		return d.below(200)
	}
	return 128
}

// step does one call on both and tells its name, and whether both answered alike.
func step(r *dice, d *disk.Disk, p *plain) (string, bool) {
	switch n := r.below(20); {
	case n < 8:
		sector, data := r.sector(), r.bytes(r.size())
		return "Write", d.Write(sector, data) == p.write(sector, data)
	case n < 10:
		return "Flush", d.Flush() == p.flush()
	case n < 12:
		keep := r.keep(r.below(12))
		return "Crash", d.Crash(keep) == p.crash(keep)
	case n < 13:
		k := r.below(9) - 1
		return "Arm", d.Arm(k) == p.arm(k)
	case n < 15:
		sector, at, data := r.sector(), r.below(132)-2, r.bytes(r.below(40))
		return "Edit", d.Edit(sector, at, data) == p.edit(sector, at, data)
	default:
		sector := r.sector()
		got, e := d.Read(sector)
		want, code := p.read(sector)
		return "Read", e == code && bytes.Equal(got, want)
	}
}

// alike holds all that is told of the disk against the plain one.
func alike(d *disk.Disk, p *plain) bool {
	for _, sector := range []int{0, 29, 30, 31, 32, 33, 34, 35, 1023} {
		raw, e := d.Raw(sector)
		if e != api.OK || !bytes.Equal(raw, p.lying(sector)) {
			return false
		}
		got, e := d.Read(sector)
		want, code := p.read(sector)
		if e != code || !bytes.Equal(got, want) {
			return false
		}
	}
	return d.Acts() == p.acts && d.Down() == p.down && slices.Equal(d.Pending(), p.sectors)
}

func TestScriptsOfCalls(t *testing.T) {
	for seed := range 40 {
		r := dice(seed)
		d, p := disk.New(), newPlain()
		for k := range 400 {
			name, same := step(&r, d, p)
			if !same || !alike(d, p) {
				t.Fatalf("P4.1: seed %d, call %d, %s: not what its rule says", seed, k, name)
			}
		}
		whole := make([]byte, 0, mediumBytes)
		for sector := range 1024 {
			whole = append(whole, p.lying(sector)...)
		}
		if !bytes.Equal(d.Medium(), whole) {
			t.Fatalf("P4.1: seed %d: Medium is not what was laid on it", seed)
		}
	}
}
