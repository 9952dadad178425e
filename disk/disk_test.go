package disk_test

import (
	"bytes"
	"math"
	"slices"
	"testing"

	"amber/api"
	"amber/disk"
)

const mediumBytes = 131072

// farSectors: numbers that are no sector.
var farSectors = []int{math.MinInt, -1 << 32, -1024, -2, -1, 1024, 1025, 1 << 31, 1 << 32, 1<<32 + 5, 1 << 57, math.MaxInt}

// all is a sector's bytes, each b.
func all(b byte) []byte { return bytes.Repeat([]byte{b}, 128) }

// is holds what a call answered against what its rule says.
func is(t *testing.T, what string, got, want api.Errno) {
	t.Helper()
	if got != want {
		t.Errorf("%s = %d; want %d", what, got, want)
	}
}

// reads asks Read of one sector.
func reads(t *testing.T, promise string, d *disk.Disk, sector int, want []byte, code api.Errno) {
	t.Helper()
	got, e := d.Read(sector)
	if !bytes.Equal(got, want) || (got == nil) != (want == nil) || e != code {
		t.Errorf("%s: Read(%d) = %x, %d; want %x, %d", promise, sector, got, e, want, code)
	}
}

// lies asks Raw of one sector.
func lies(t *testing.T, promise string, d *disk.Disk, sector int, want []byte, code api.Errno) {
	t.Helper()
	got, e := d.Raw(sector)
	if !bytes.Equal(got, want) || (got == nil) != (want == nil) || e != code {
		t.Errorf("%s: Raw(%d) = %x, %d; want %x, %d", promise, sector, got, e, want, code)
	}
}

// stands asks for all that is told of a disk beside its bytes.
func stands(t *testing.T, promise string, d *disk.Disk, down bool, acts int, pending ...int) {
	t.Helper()
	if d.Down() != down || d.Acts() != acts || !slices.Equal(d.Pending(), pending) {
		t.Errorf("%s: Down %v, Acts %d, Pending %v; want %v, %d, %v", promise, d.Down(), d.Acts(), d.Pending(), down, acts, pending)
	}
}

// keeps asks Crash.
func keeps(t *testing.T, promise string, d *disk.Disk, keep []bool, want int) {
	t.Helper()
	if got := d.Crash(keep); got != want {
		t.Errorf("%s: Crash(%v) = %d; want %d", promise, keep, got, want)
	}
}

func TestNewDisk(t *testing.T) {
	d := disk.New()
	stands(t, "P4.1", d, false, 0)
	for sector := range 1024 {
		reads(t, "P4.1", d, sector, all(0), api.OK)
		lies(t, "P4.1", d, sector, all(0), api.OK)
	}
	if m := d.Medium(); !bytes.Equal(m, make([]byte, mediumBytes)) {
		t.Errorf("P4.1: Medium of a new disk has %d bytes, or one that is not 0", len(m))
	}
	for range 3 {
		is(t, "P4.1: Flush of a disk that is not armed", d.Flush(), api.OK)
	}
	stands(t, "P4.1: a flush of an empty cache is an act", d, false, 3)
}

func TestExampleOfErrors(t *testing.T) {
	d := disk.New()
	reads(t, "P4.1", d, 0, all(0), api.OK)
	reads(t, "P4.1", d, 1024, nil, api.ErrSector)
	reads(t, "P4.1", d, -1, nil, api.ErrSector)
	is(t, "P4.1: Write(3, 127 bytes)", d.Write(3, make([]byte, 127)), api.ErrSize)
	is(t, "P4.1: Write(1024, none)", d.Write(1024, nil), api.ErrSector)
	stands(t, "P4.5", d, false, 0)
}

func TestFarSectors(t *testing.T) {
	up, down := disk.New(), disk.New()
	down.Arm(0)
	down.Flush()
	for _, d := range []*disk.Disk{up, down} {
		for _, n := range farSectors {
			reads(t, "P4.1", d, n, nil, api.ErrSector)
			lies(t, "P4.1", d, n, nil, api.ErrSector)
			is(t, "P4.1: Write, sector ahead of size", d.Write(n, nil), api.ErrSector)
			is(t, "P4.1: Write of a whole sector", d.Write(n, all(1)), api.ErrSector)
			is(t, "P4.1: Edit, sector ahead of place", d.Edit(n, -1, nil), api.ErrSector)
			is(t, "P4.1: Edit", d.Edit(n, 0, []byte{1}), api.ErrSector)
		}
		if !bytes.Equal(d.Medium(), make([]byte, mediumBytes)) {
			t.Error("P4.5: refused calls changed the medium")
		}
	}
	stands(t, "P4.5", up, false, 0)
	stands(t, "P4.5", down, true, 0)
}

func TestSizes(t *testing.T) {
	d := disk.New()
	for n := range 300 {
		want := api.ErrSize
		if n == 128 {
			want = api.OK
		}
		is(t, "P4.1: Write of another size", d.Write(1023, make([]byte, n)), want)
	}
	is(t, "P4.1: Write of the whole medium", d.Write(0, make([]byte, mediumBytes)), api.ErrSize)
	is(t, "P4.1: Write of nil", d.Write(0, nil), api.ErrSize)
	stands(t, "P4.5", d, false, 1, 1023)
}

func TestExampleOfFlush(t *testing.T) {
	d := disk.New()
	is(t, "P4.1: Write", d.Write(5, all(1)), api.OK)
	reads(t, "P4.1", d, 5, all(1), api.OK)
	lies(t, "P4.1", d, 5, all(0), api.OK)
	stands(t, "P4.1", d, false, 1, 5)
	is(t, "P4.1: Flush", d.Flush(), api.OK)
	lies(t, "P4.3", d, 5, all(1), api.OK)
	reads(t, "P4.3", d, 5, all(1), api.OK)
	stands(t, "P4.1", d, false, 2)
}

func TestFlushedStays(t *testing.T) {
	d := disk.New()
	for i, sector := range []int{0, 1023, 5, 0, 5, 700, 5} {
		is(t, "P4.1: Write", d.Write(sector, all(byte(i+1))), api.OK)
	}
	var seen [1024][]byte
	for sector := range seen {
		seen[sector], _ = d.Read(sector)
	}
	is(t, "P4.3: Flush", d.Flush(), api.OK)
	same := func(promise string) {
		t.Helper()
		for sector := range seen {
			lies(t, promise, d, sector, seen[sector], api.OK)
		}
	}
	same("P4.3: behind the flush")
	keeps(t, "P4.3", d, []bool{true, true, true}, 0)
	same("P4.3: behind a crash")
	d.Write(1023, all(9))
	keeps(t, "P4.3", d, []bool{true}, 1)
	seen[1023] = all(9)
	same("P4.3: behind a write of another sector and a crash")
	if seen[5][0] != 7 || seen[0][0] != 4 || seen[700][0] != 6 {
		t.Errorf("P4.1: the latest write of a sector is not what is read: %d, %d, %d", seen[5][0], seen[0][0], seen[700][0])
	}
}

func TestExampleOfCrash(t *testing.T) {
	d := disk.New()
	d.Write(5, all(1))
	d.Write(6, all(2))
	d.Write(5, all(3))
	stands(t, "P4.1", d, false, 3, 5, 6, 5)
	keeps(t, "P4.2", d, []bool{true, false}, 1)
	reads(t, "P4.2", d, 5, all(1), api.OK)
	reads(t, "P4.2", d, 6, all(0), api.OK)

	for _, c := range []struct {
		keep []bool
		kept int
	}{{[]bool{true, true, true}, 2}, {[]bool{false, true}, 1}} {
		d = disk.New()
		d.Write(5, all(1))
		d.Write(5, all(3))
		keeps(t, "P4.2", d, c.keep, c.kept)
		reads(t, "P4.2", d, 5, all(3), api.OK)
	}
	keeps(t, "P4.1", disk.New(), nil, 0)
}

// TestEveryCrash: all choices over four writes of two sectors, with keep as long as the cache, and longer.
func TestEveryCrash(t *testing.T) {
	for choice := range 1 << 6 {
		keep := make([]bool, 6)
		for i := range keep {
			keep[i] = choice>>i&1 == 1
		}
		d := disk.New()
		d.Write(5, all(7))
		d.Write(6, all(8))
		d.Write(7, all(9))
		d.Flush()
		want, kept := map[int]byte{4: 0, 5: 7, 6: 8, 7: 9}, 0
		for i, sector := range []int{5, 6, 5, 6} {
			d.Write(sector, all(byte(i+1)))
			if keep[i] {
				want[sector] = byte(i + 1)
				kept++
			}
		}
		given := slices.Clone(keep)
		keeps(t, "P4.2", d, keep, kept)
		if !slices.Equal(keep, given) {
			t.Errorf("P4.1: Crash changed keep: %v, was %v", keep, given)
		}
		for sector, b := range want {
			lies(t, "P4.2", d, sector, all(b), api.OK)
			reads(t, "P4.2", d, sector, all(b), api.OK)
		}
		stands(t, "P4.2: the cache is empty", d, false, 8)
		keeps(t, "P4.2: a second crash", d, []bool{true, true, true, true}, 0)
	}
}

func TestExampleOfArm(t *testing.T) {
	d := disk.New()
	is(t, "P4.4: Arm(1)", d.Arm(1), api.OK)
	is(t, "P4.4: Write", d.Write(5, all(1)), api.OK)
	stands(t, "P4.4", d, false, 1, 5)
	is(t, "P4.4: Flush", d.Flush(), api.ErrDown)
	stands(t, "P4.4", d, true, 1, 5)
	reads(t, "P4.4", d, 5, nil, api.ErrDown)
	lies(t, "P4.1", d, 5, all(0), api.OK)
	is(t, "P4.4: Arm of a disk that is down", d.Arm(3), api.ErrDown)
	keeps(t, "P4.4", d, []bool{true}, 1)
	stands(t, "P4.4", d, false, 1)
	reads(t, "P4.4", d, 5, all(1), api.OK)
}

func TestExampleOfArmZero(t *testing.T) {
	d := disk.New()
	is(t, "P4.1: Arm(-1)", d.Arm(-1), api.ErrArg)
	is(t, "P4.4: Arm(0)", d.Arm(0), api.OK)
	is(t, "P4.1: Write(5, none)", d.Write(5, nil), api.ErrSize)
	stands(t, "P4.4: a refused write is no act", d, false, 0)
	is(t, "P4.4: Write", d.Write(5, all(1)), api.ErrDown)
	stands(t, "P4.4", d, true, 0)
	for _, n := range []int{-1, math.MinInt} {
		is(t, "P4.1: Arm below 0 of a disk that is down", d.Arm(n), api.ErrArg)
	}
	keeps(t, "P4.5: the write that took the disk down is not in the cache", d, []bool{true}, 0)
	reads(t, "P4.5", d, 5, all(0), api.OK)
}

// TestEveryArm: n acts work, by turns writes and flushes, and then whichever comes next takes the disk down.
func TestEveryArm(t *testing.T) {
	for n := range 12 {
		for _, last := range []bool{false, true} {
			d := disk.New()
			d.Arm(n + 3)
			is(t, "P4.4: armed once more", d.Arm(n), api.OK)
			for i := range n {
				reads(t, "P4.4: reading is no act", d, 900, all(0), api.OK)
				is(t, "P4.4: a refused write", d.Write(-1, nil), api.ErrSector)
				is(t, "P4.4: an edit is no act", d.Edit(8, 0, nil), api.OK)
				is(t, "P4.4: an act that is left", act(d, i%3 == 2), api.OK)
			}
			stand := d.Pending()
			if d.Down() || d.Acts() != n {
				t.Errorf("P4.4: armed with %d: Down %v, Acts %d", n, d.Down(), d.Acts())
			}
			before := d.Medium()
			for range 3 {
				is(t, "P4.4: the act behind the last", act(d, last), api.ErrDown)
				is(t, "P4.4: the other one", act(d, !last), api.ErrDown)
				reads(t, "P4.4", d, 900, nil, api.ErrDown)
				is(t, "P4.4: Arm", d.Arm(5), api.ErrDown)
				stands(t, "P4.4", d, true, n, stand...)
			}
			if !bytes.Equal(d.Medium(), before) {
				t.Errorf("P4.5: acts that were refused changed the medium")
			}
			keeps(t, "P4.4", d, nil, 0)
			for range 20 {
				is(t, "P4.4: behind a crash nothing is armed", act(d, last), api.OK)
			}
		}
	}
}

// act writes, or flushes.
func act(d *disk.Disk, flush bool) api.Errno {
	if flush {
		return d.Flush()
	}
	return d.Write(3, all(3))
}

func TestArmedWithMuch(t *testing.T) {
	d := disk.New()
	is(t, "P4.4: Arm(MaxInt)", d.Arm(math.MaxInt), api.OK)
	for range 10 {
		is(t, "P4.4: Write", d.Write(3, all(3)), api.OK)
	}
	is(t, "P4.4: Arm(-1) of an armed disk", d.Arm(-1), api.ErrArg)
	is(t, "P4.4: Flush", d.Flush(), api.OK)
}

func TestExampleOfDisarming(t *testing.T) {
	d := disk.New()
	d.Arm(2)
	keeps(t, "P4.4", d, nil, 0)
	for range 3 {
		is(t, "P4.4: Write behind a crash", d.Write(5, all(1)), api.OK)
	}
}

func TestExampleOfEdit(t *testing.T) {
	d := disk.New()
	d.Write(5, all(1))
	is(t, "P4.1: Edit", d.Edit(5, 0, []byte{9, 9}), api.OK)
	reads(t, "P4.1: the write lies over the edit", d, 5, all(1), api.OK)
	edited := all(0)
	edited[0], edited[1] = 9, 9
	lies(t, "P4.1", d, 5, edited, api.OK)
	stands(t, "P4.1: an edit is no act", d, false, 1, 5)
	d.Flush()
	lies(t, "P4.1: the flush lies over the edit", d, 5, all(1), api.OK)
	is(t, "P4.1: Edit(5, 127, two)", d.Edit(5, 127, []byte{1, 2}), api.ErrArg)
	is(t, "P4.1: Edit(5, 128, none)", d.Edit(5, 128, nil), api.OK)
	is(t, "P4.1: Edit(5, 129, none)", d.Edit(5, 129, nil), api.ErrArg)
	lies(t, "P4.5", d, 5, all(1), api.OK)
}

func TestEditPlaces(t *testing.T) {
	for _, at := range []int{math.MinInt, math.MinInt + 1, -129, -128, -1, 0, 1, 64, 126, 127, 128, 129, 256, 1 << 32, math.MaxInt - 1, math.MaxInt} {
		for _, n := range []int{0, 1, 2, 63, 64, 65, 127, 128, 129, 300} {
			d := disk.New()
			for sector := range 3 {
				d.Edit(sector, 0, all(1))
			}
			want, code := d.Medium(), api.OK
			if at < 0 || at > 128 || n > 128 || at+n > 128 {
				code = api.ErrArg
			} else {
				copy(want[128+at:], bytes.Repeat([]byte{2}, n))
			}
			is(t, "P4.1: Edit", d.Edit(1, at, bytes.Repeat([]byte{2}, n)), code)
			if !bytes.Equal(d.Medium(), want) {
				t.Errorf("P4.1: Edit(1, %d, %d bytes) left other bytes than it says", at, n)
			}
		}
	}
}

func TestEditUnderTheCache(t *testing.T) {
	for _, kept := range []bool{false, true} {
		d := disk.New()
		d.Write(5, all(1))
		d.Arm(0)
		d.Flush()
		is(t, "P4.1: Edit of a disk that is down", d.Edit(5, 3, []byte{9}), api.OK)
		stands(t, "P4.1: an edit leaves the cache", d, true, 1, 5)
		want := all(1)
		if !kept {
			want = all(0)
			want[3] = 9
		}
		d.Crash([]bool{kept})
		lies(t, "P4.2", d, 5, want, api.OK)
	}
}

func TestExampleOfMedium(t *testing.T) {
	d := disk.New()
	d.Write(5, all(1))
	d.Flush()
	d.Write(5, all(2))
	m := d.Medium()
	want := make([]byte, mediumBytes)
	copy(want[640:], all(1))
	if !bytes.Equal(m, want) {
		t.Fatalf("P4.1: Medium has %d bytes, or others than those of sector 5 are not 0", len(m))
	}
	u, e := disk.Of(m)
	is(t, "P4.6: Of", e, api.OK)
	reads(t, "P4.6", u, 5, all(1), api.OK)
	stands(t, "P4.6", u, false, 0)
	for _, n := range []int{0, 1, 128, mediumBytes - 1, mediumBytes + 1, 2 * mediumBytes} {
		if u, e := disk.Of(make([]byte, n)); u != nil || e != api.ErrSize {
			t.Errorf("P4.1: Of(%d bytes) = %v, %d; want nil, ErrSize", n, u != nil, e)
		}
	}
	if u, e := disk.Of(nil); u != nil || e != api.ErrSize {
		t.Errorf("P4.1: Of(nil) = %v, %d; want nil, ErrSize", u != nil, e)
	}
}

func TestOfEverySector(t *testing.T) {
	d := disk.New()
	for sector := range 1024 {
		b := all(byte(sector))
		b[1], b[126], b[127] = byte(sector>>8), 77, byte(sector+1)
		d.Write(sector, b)
	}
	d.Flush()
	d.Write(0, all(5))
	d.Write(1023, all(6))
	d.Arm(0)
	d.Flush()
	m := d.Medium()
	u, e := disk.Of(m)
	if e != api.OK {
		t.Fatalf("P4.6: Of(d.Medium()) of a disk that is down = %d", e)
	}
	stands(t, "P4.6: of the cache, the acts and the arming nothing is carried", u, false, 0)
	clear(m)
	keeps(t, "P4.6", d, nil, 0)
	for sector := range 1024 {
		b := all(byte(sector))
		b[1], b[126], b[127] = byte(sector>>8), 77, byte(sector+1)
		reads(t, "P4.6", u, sector, b, api.OK)
		lies(t, "P4.6: a crash that keeps nothing", d, sector, b, api.OK)
	}
	d.Write(7, all(9))
	d.Flush()
	d.Edit(8, 0, all(9))
	if b, _ := u.Read(7); b[0] != 7 {
		t.Error("P4.6: a write to the disk is seen in the one of its medium")
	}
	if b, _ := u.Read(8); b[0] != 8 {
		t.Error("P4.6: an edit of the disk is seen in the one of its medium")
	}
	u.Edit(9, 0, all(1))
	if b, _ := d.Read(9); b[0] != 9 {
		t.Error("P4.6: an edit of the one of its medium is seen in the disk")
	}
}

func TestActsOverCrashes(t *testing.T) {
	d := disk.New()
	d.Write(1, all(1))
	d.Write(2, all(2))
	d.Crash([]bool{true})
	stands(t, "P4.1", d, false, 2)
	d.Flush()
	d.Arm(0)
	d.Flush()
	d.Crash(nil)
	d.Write(3, all(3))
	stands(t, "P4.1", d, false, 4, 3)
}

func TestNothingIsShared(t *testing.T) {
	d := disk.New()
	data := append(make([]byte, 0, 256), all(1)...)
	d.Write(5, data)
	data[0] = 9
	reads(t, "P4.1: data is not kept by Write", d, 5, all(1), api.OK)
	d.Flush()
	d.Edit(6, 0, data[:128])
	data[1] = 8
	want := all(1)
	want[0] = 9
	lies(t, "P4.1: data is not kept by Edit", d, 6, want, api.OK)
	d.Write(7, all(7))
	spoil := func(f func() []byte) {
		b := f()
		for i := range b[:cap(b)] {
			b[:cap(b)][i] = 200
		}
	}
	for range 2 {
		spoil(func() []byte { b, _ := d.Read(5); return b })
		spoil(func() []byte { b, _ := d.Read(7); return b })
		spoil(func() []byte { b, _ := d.Raw(6); return b })
		spoil(d.Medium)
	}
	p := d.Pending()
	for i := range p[:cap(p)] {
		p[:cap(p)][i] = 200
	}
	reads(t, "P4.1: an answer of Read or Medium is new memory", d, 5, all(1), api.OK)
	lies(t, "P4.1: an answer of Raw is new memory", d, 6, want, api.OK)
	reads(t, "P4.1: an answer of Read is new memory", d, 7, all(7), api.OK)
	stands(t, "P4.1: an answer of Pending is new memory", d, false, 3, 7)
	a, _ := d.Read(5)
	b, _ := d.Read(5)
	a[0] = 200
	if b[0] != 1 {
		t.Error("P4.1: two answers of Read share memory")
	}
}

func TestDisksAreApart(t *testing.T) {
	a, b := disk.New(), disk.New()
	a.Write(5, all(1))
	a.Edit(6, 0, all(2))
	a.Arm(0)
	a.Flush()
	stands(t, "P4.1", b, false, 0)
	reads(t, "P4.1", b, 5, all(0), api.OK)
	reads(t, "P4.1", b, 6, all(0), api.OK)
	is(t, "P4.1: Flush of the other disk", b.Flush(), api.OK)
}

// TestLongCache: the cache has no bound.
func TestLongCache(t *testing.T) {
	d := disk.New()
	const n = 20000
	for i := range n {
		is(t, "P4.1: Write", d.Write(i%1000, all(byte(i/1000))), api.OK)
	}
	if p := d.Pending(); len(p) != n || p[n-1] != 999 || p[1000] != 0 {
		t.Fatalf("P4.1: Pending of %d writes has %d", n, len(p))
	}
	reads(t, "P4.1", d, 999, all(n/1000-1), api.OK)
	reads(t, "P4.1", d, 1000, all(0), api.OK)
	keep := make([]bool, n)
	keep[5], keep[1005], keep[n-1] = true, true, true
	keeps(t, "P4.2", d, keep, 3)
	reads(t, "P4.2", d, 5, all(1), api.OK)
	reads(t, "P4.2", d, 999, all(n/1000-1), api.OK)
	reads(t, "P4.2", d, 6, all(0), api.OK)
}
