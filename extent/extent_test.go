package extent_test

import (
	"bytes"
	"math"
	"slices"
	"testing"

	"amber/api"
	"amber/disk"
	"amber/extent"
)

const maxSerial = 1<<62 - 1

// noSerials: numbers that are no serial.
var noSerials = []int{math.MinInt, -maxSerial, -1 << 32, -1, 0, maxSerial + 1, maxSerial + 2, math.MaxInt}

// farNumbers: numbers that are neither an extent nor a sector of one; times 32 some of them come back into the disk.
var farNumbers = []int{math.MinInt, math.MinInt + 1, -1 << 59, -1 << 32, -32, -2, 32, 33, 1023, 1024, 1 << 32, 1 << 58, 1 << 59, 1<<59 + 1, math.MaxInt}

// all is a sector's bytes, each b.
func all(b byte) []byte { return bytes.Repeat([]byte{b}, 128) }

// is holds what a call answered against what its rule says.
func is(t *testing.T, what string, got, want api.Errno) {
	t.Helper()
	if got != want {
		t.Errorf("%s = %d; want %d", what, got, want)
	}
}

// claims asks Claim.
func claims(t *testing.T, promise string, x *extent.Table, n, serial, want int, code api.Errno) {
	t.Helper()
	if got, e := x.Claim(n, serial); got != want || e != code {
		t.Errorf("%s: Claim(%d, %d) = %d, %d; want %d, %d", promise, n, serial, got, e, want, code)
	}
}

// drops asks Drop.
func drops(t *testing.T, promise string, x *extent.Table, n int, want bool, code api.Errno) {
	t.Helper()
	if got, e := x.Drop(n); got != want || e != code {
		t.Errorf("%s: Drop(%d) = %v, %d; want %v, %d", promise, n, got, e, want, code)
	}
}

// serial asks Serial.
func serial(t *testing.T, promise string, x *extent.Table, n, want int, code api.Errno) {
	t.Helper()
	if got, e := x.Serial(n); got != want || e != code {
		t.Errorf("%s: Serial(%d) = %d, %d; want %d, %d", promise, n, got, e, want, code)
	}
}

// reads asks Read.
func reads(t *testing.T, promise string, x *extent.Table, n, sector int, want []byte, code api.Errno) {
	t.Helper()
	got, e := x.Read(n, sector)
	if !bytes.Equal(got, want) || (got == nil) != (want == nil) || e != code {
		t.Errorf("%s: Read(%d, %d) = %x, %d; want %x, %d", promise, n, sector, got, e, want, code)
	}
}

// lists asks List.
func lists(t *testing.T, promise string, x *extent.Table, want ...api.ExtState) {
	t.Helper()
	if got := x.List(); !slices.Equal(got, want) {
		t.Errorf("%s: List = %v; want %v", promise, got, want)
	}
}

// shape: all that a disk tells without an act, to be compared.
type shape struct {
	medium, pending []byte
	acts            int
	down            bool
}

func shapeOf(d *disk.Disk) shape {
	s := shape{medium: d.Medium(), acts: d.Acts(), down: d.Down()}
	for _, sector := range d.Pending() {
		b, _ := d.Read(sector)
		s.pending = append(append(s.pending, byte(sector), byte(sector>>8)), b...)
	}
	return s
}

func (s shape) same(o shape) bool {
	return bytes.Equal(s.medium, o.medium) && bytes.Equal(s.pending, o.pending) && s.acts == o.acts && s.down == o.down
}

// numbered is a disk whose sectors all differ, and its medium.
func numbered() (*disk.Disk, []byte) {
	medium := make([]byte, 0, 131072)
	for sector := range 1024 {
		medium = append(medium, bytes.Repeat([]byte{byte(sector), byte(sector >> 8)}, 64)...)
	}
	d, _ := disk.Of(medium)
	return d, medium
}

// full is a table whose extents are all claimed, extent n with the serial n+100.
func full(d *disk.Disk) *extent.Table {
	x := extent.New(d)
	for n := range 32 {
		x.Claim(n, n+100)
	}
	return x
}

func TestExamples(t *testing.T) {
	d := disk.New()
	x := extent.New(d)
	claims(t, "P10.1", x, -1, 7, 0, api.OK)
	claims(t, "P10.1", x, -1, 8, 1, api.OK)
	claims(t, "P10.1", x, 1, 9, -1, api.ErrClaimed)
	claims(t, "P10.1", x, 5, 9, 5, api.OK)
	claims(t, "P10.1", x, 32, 1, -1, api.ErrExtent)
	claims(t, "P10.1", x, -2, 1, -1, api.ErrExtent)
	claims(t, "P10.1", x, -2, 0, -1, api.ErrArg)
	lists(t, "P10.1", x, api.ExtState{Num: 0, Serial: 7, Holds: 1}, api.ExtState{Num: 1, Serial: 8, Holds: 1}, api.ExtState{Num: 5, Serial: 9, Holds: 1})

	is(t, "P10.1: Hold(0)", x.Hold(0), api.OK)
	drops(t, "P10.3", x, 0, false, api.OK)
	drops(t, "P10.3", x, 0, true, api.OK)
	drops(t, "P10.3", x, 0, false, api.ErrExtent)
	claims(t, "P10.3", x, -1, 11, 0, api.OK)
	serial(t, "P10.1", x, 0, 11, api.OK)
	serial(t, "P10.1", x, 2, 0, api.ErrExtent)

	is(t, "P10.1: Write(1, 0)", x.Write(1, 0, all(3)), api.OK)
	if b, e := d.Read(32); !bytes.Equal(b, all(3)) || e != api.OK {
		t.Errorf("P10.2: the disk's sector 32 is %x, %d", b, e)
	}
	reads(t, "P10.1", x, 1, 0, all(3), api.OK)
	reads(t, "P10.1", x, 1, 32, nil, api.ErrSector)
	reads(t, "P10.1", x, 2, 32, nil, api.ErrExtent)
	is(t, "P10.1: Write(1, 32, none)", x.Write(1, 32, nil), api.ErrSector)
	is(t, "P10.1: Write(1, 31, none)", x.Write(1, 31, nil), api.ErrSize)

	d.Arm(0)
	is(t, "P10.1: Write(1, 0), armed with 0", x.Write(1, 0, all(4)), api.ErrDown)
	claims(t, "P10.4", x, -1, 5, 2, api.OK)
	d.Crash([]bool{true})
	reads(t, "P10.1", x, 1, 0, all(3), api.OK)
	y := extent.New(d)
	lists(t, "P10.1: a new table", y)
	claims(t, "P10.1: a new table", y, 1, 6, 1, api.OK)
	reads(t, "P10.1: a new table", y, 1, 0, all(3), api.OK)
}

func TestNoDisk(t *testing.T) {
	if extent.New(nil) != nil {
		t.Error("P10.1: New(nil) answers a table")
	}
}

func TestNewTable(t *testing.T) {
	d, medium := numbered()
	x := extent.New(d)
	lists(t, "P10.1: New", x)
	for n := range 32 {
		serial(t, "P10.1: New", x, n, 0, api.ErrExtent)
	}
	for n := range 32 {
		claims(t, "P10.1: the lowest free", x, -1, 1, n, api.OK)
	}
	claims(t, "P10.1: none is free", x, -1, 1, -1, api.ErrNoSpace)
	if !shapeOf(d).same(shape{medium: medium}) {
		t.Error("P10.4: claiming changed the disk")
	}
}

func TestSerials(t *testing.T) {
	for _, s := range []int{1, 2, 1 << 31, 1 << 61, maxSerial - 1, maxSerial} {
		x := extent.New(disk.New())
		claims(t, "P10.1", x, 31, s, 31, api.OK)
		claims(t, "P10.1: one serial twice", x, -1, s, 0, api.OK)
		serial(t, "P10.1", x, 31, s, api.OK)
		lists(t, "P10.1", x, api.ExtState{Num: 0, Serial: s, Holds: 1}, api.ExtState{Num: 31, Serial: s, Holds: 1})
	}
	some, none := extent.New(disk.New()), full(disk.New())
	some.Claim(3, 9)
	before := none.List()
	for _, s := range noSerials {
		for _, n := range append([]int{-1, 0, 3, 31}, farNumbers...) {
			claims(t, "P10.1: the serial ahead of all else", some, n, s, -1, api.ErrArg)
			claims(t, "P10.1: the serial ahead of all else", none, n, s, -1, api.ErrArg)
		}
	}
	lists(t, "P10.1: refused is unchanged", some, api.ExtState{Num: 3, Serial: 9, Holds: 1})
	lists(t, "P10.1: refused is unchanged", none, before...)
}

// refusals asks all calls of an extent that is not there.
func refusals(t *testing.T, x *extent.Table, n int) {
	t.Helper()
	is(t, "P10.1: Hold of none", x.Hold(n), api.ErrExtent)
	drops(t, "P10.1: of none", x, n, false, api.ErrExtent)
	serial(t, "P10.1: of none", x, n, 0, api.ErrExtent)
	for _, sector := range append([]int{-1, 0, 31}, farNumbers...) {
		reads(t, "P10.1: of none", x, n, sector, nil, api.ErrExtent)
		is(t, "P10.1: Write to none", x.Write(n, sector, all(9)), api.ErrExtent)
		is(t, "P10.1: Write to none, of another size", x.Write(n, sector, nil), api.ErrExtent)
	}
}

func TestNoSuchExtent(t *testing.T) {
	d, medium := numbered()
	d.Arm(0) // a refused call is no act: it takes no armed disk down
	some, most := extent.New(d), full(d)
	some.Claim(3, 9)
	most.Drop(17)
	before := most.List()
	for _, n := range append([]int{-1}, farNumbers...) {
		refusals(t, some, n)
		refusals(t, most, n)
	}
	for _, n := range []int{0, 2, 4, 31} {
		refusals(t, some, n)
	}
	refusals(t, most, 17)
	for _, n := range farNumbers {
		claims(t, "P10.1: of none", some, n, 5, -1, api.ErrExtent)
		claims(t, "P10.1: of none", most, n, 5, -1, api.ErrExtent)
	}
	lists(t, "P10.1: refused is unchanged", some, api.ExtState{Num: 3, Serial: 9, Holds: 1})
	lists(t, "P10.1: refused is unchanged", most, before...)
	if !shapeOf(d).same(shape{medium: medium}) {
		t.Error("P10.1: refused calls changed the disk")
	}
}

func TestNoSuchSector(t *testing.T) {
	d, medium := numbered()
	d.Arm(0)
	x := full(d)
	before := x.List()
	for _, n := range []int{0, 1, 30, 31} {
		for _, sector := range append([]int{-1}, farNumbers...) {
			reads(t, "P10.1", x, n, sector, nil, api.ErrSector)
			is(t, "P10.1: Write, no such sector", x.Write(n, sector, all(9)), api.ErrSector)
			is(t, "P10.1: Write, the sector ahead of the size", x.Write(n, sector, nil), api.ErrSector)
		}
	}
	lists(t, "P10.1: refused is unchanged", x, before...)
	if !shapeOf(d).same(shape{medium: medium}) {
		t.Error("P10.1: refused calls changed the disk")
	}
}

func TestSizes(t *testing.T) {
	d := disk.New()
	x := full(d)
	d.Arm(0)
	for n := range 300 {
		if n != 128 {
			is(t, "P10.1: Write of another size", x.Write(31, 31, make([]byte, n)), api.ErrSize)
		}
	}
	is(t, "P10.1: Write of a whole extent", x.Write(0, 0, make([]byte, 4096)), api.ErrSize)
	if !shapeOf(d).same(shapeOf(disk.New())) {
		t.Error("P10.1: refused calls changed the disk")
	}
	is(t, "P10.1: Write, the disk goes down", x.Write(31, 31, all(1)), api.ErrDown)
	is(t, "P10.1: Write, the size ahead of the disk being down", x.Write(31, 31, nil), api.ErrSize)
}

func TestReadTellsItsSectorAlone(t *testing.T) {
	d, medium := numbered()
	for n := range 32 {
		x := extent.New(d)
		x.Claim(n, 1)
		for i := range 32 {
			at := (n*32 + i) * 128
			reads(t, "P10.2", x, n, i, medium[at:at+128], api.OK)
		}
	}
	if !shapeOf(d).same(shape{medium: medium}) {
		t.Error("P10.2: reading changed the disk")
	}
}

func TestWriteChangesItsSectorAlone(t *testing.T) {
	for n := range 32 {
		d, want := numbered()
		x := extent.New(d)
		x.Claim(n, 1)
		for i := range 32 {
			is(t, "P10.2: Write", x.Write(n, i, all(byte(200+i))), api.OK)
			reads(t, "P10.2: not flushed", x, n, i, all(byte(200+i)), api.OK)
			if p := d.Pending(); !slices.Equal(p, []int{n*32 + i}) {
				t.Fatalf("P10.2: Write(%d, %d): the disk's Pending is %v", n, i, p)
			}
			if !bytes.Equal(d.Medium(), want) {
				t.Fatalf("P10.2: Write(%d, %d) is on the medium ahead of Flush", n, i)
			}
			is(t, "P10.1: Flush", x.Flush(), api.OK)
			copy(want[(n*32+i)*128:], all(byte(200+i)))
			if !bytes.Equal(d.Medium(), want) {
				t.Fatalf("P10.2: Write(%d, %d) changed another sector, or not its own", n, i)
			}
		}
		if d.Acts() != 64 {
			t.Fatalf("P10.1: 32 writes and flushes were %d acts", d.Acts())
		}
	}
}

func TestEarlierBytesStay(t *testing.T) {
	d := disk.New()
	x := extent.New(d)
	x.Claim(4, 1)
	x.Write(4, 7, all(5))
	before := shapeOf(d)
	drops(t, "P10.3", x, 4, true, api.OK)
	reads(t, "P10.1: of a free one", x, 4, 7, nil, api.ErrExtent)
	claims(t, "P10.3", x, 4, 2, 4, api.OK)
	reads(t, "P10.1: what an earlier holder wrote", x, 4, 7, all(5), api.OK)
	if !before.same(shapeOf(d)) {
		t.Error("P10.4: giving back and claiming changed the disk")
	}
}

func TestHoldsAreCounted(t *testing.T) {
	for n := range 32 {
		x := full(disk.New())
		for range n {
			is(t, "P10.3: Hold", x.Hold(n), api.OK)
		}
		for left := n; left > 0; left-- {
			claims(t, "P10.3: while it is held", x, n, 7, -1, api.ErrClaimed)
			claims(t, "P10.3: while it is held", x, -1, 7, -1, api.ErrNoSpace)
			if got := x.List()[n]; got != (api.ExtState{Num: n, Serial: n + 100, Holds: left + 1}) {
				t.Fatalf("P10.3: with %d holds List tells %v", left+1, got)
			}
			drops(t, "P10.3: not the last", x, n, false, api.OK)
		}
		drops(t, "P10.3: the last", x, n, true, api.OK)
		if got := len(x.List()); got != 31 {
			t.Fatalf("P10.3: behind the last Drop %d are claimed", got)
		}
		refusals(t, x, n)
		claims(t, "P10.3: free again", x, -1, 7, n, api.OK)
		drops(t, "P10.3: the new claim has one hold", x, n, true, api.OK)
		claims(t, "P10.3: free again", x, n, 8, n, api.OK)
		serial(t, "P10.3: the new serial", x, n, 8, api.OK)
	}
}

func TestLowestFree(t *testing.T) {
	for a := range 32 {
		for b := range a {
			x := full(disk.New())
			x.Drop(a)
			x.Drop(b)
			claims(t, "P10.1: the lowest free", x, -1, 1, b, api.OK)
			claims(t, "P10.1: the lowest free", x, -1, 2, a, api.OK)
			claims(t, "P10.1: none is free", x, -1, 3, -1, api.ErrNoSpace)
		}
	}
}

// bookkeeping makes all five calls that are no acts, told and refused ones.
func bookkeeping(t *testing.T, x *extent.Table, promise string) {
	t.Helper()
	claims(t, promise, x, -1, 40, 0, api.OK)
	claims(t, promise, x, 9, 41, 9, api.OK)
	claims(t, promise, x, 9, 42, -1, api.ErrClaimed)
	is(t, promise+": Hold", x.Hold(0), api.OK)
	is(t, promise+": Hold of a free one", x.Hold(1), api.ErrExtent)
	serial(t, promise, x, 9, 41, api.OK)
	lists(t, promise, x, api.ExtState{Num: 0, Serial: 40, Holds: 2}, api.ExtState{Num: 9, Serial: 41, Holds: 1})
	drops(t, promise, x, 0, false, api.OK)
	drops(t, promise, x, 0, true, api.OK)
	drops(t, promise, x, 9, true, api.OK)
	lists(t, promise, x)
}

func TestBookkeepingIsNoAct(t *testing.T) {
	d, _ := numbered()
	d.Write(5, all(1))
	d.Write(288, all(2))
	x := extent.New(d)
	quiet := func(promise string) {
		before := shapeOf(d)
		bookkeeping(t, x, promise)
		if !before.same(shapeOf(d)) {
			t.Errorf("%s: claiming, holding and giving back changed the disk", promise)
		}
	}
	quiet("P10.4: up")
	d.Arm(0)
	quiet("P10.4: armed with 0")
	d.Flush()
	quiet("P10.4: down")
	if !d.Down() {
		t.Error("P10.4: the disk is not down")
	}
}

func TestActsOfTheDisk(t *testing.T) {
	d := disk.New()
	x := full(d)
	d.Arm(2)
	is(t, "P10.1: Write, the first act", x.Write(2, 1, all(1)), api.OK)
	reads(t, "P10.1: Read is no act", x, 2, 1, all(1), api.OK)
	is(t, "P10.1: Flush, the second act", x.Flush(), api.OK)
	reads(t, "P10.1: Read is no act", x, 2, 1, all(1), api.OK)
	is(t, "P10.1: Flush, the disk goes down", x.Flush(), api.ErrDown)
	reads(t, "P10.1: down", x, 2, 1, nil, api.ErrDown)
	is(t, "P10.1: Write, down", x.Write(2, 1, all(2)), api.ErrDown)
	reads(t, "P10.1: down, the sector ahead of it", x, 2, 32, nil, api.ErrSector)
	refusals(t, x, 32)
	d.Crash(nil)
	reads(t, "P10.1: up again", x, 2, 1, all(1), api.OK)
	is(t, "P10.1: Flush, up again", x.Flush(), api.OK)
	serial(t, "P10.3: the table outlives a crash of its disk", x, 2, 102, api.OK)
}

func TestTablesOverOneDisk(t *testing.T) {
	d := disk.New()
	x, y := extent.New(d), extent.New(d)
	claims(t, "P10.1", x, 6, 1, 6, api.OK)
	claims(t, "P10.1: of another table's claims nothing is known", y, 6, 2, 6, api.OK)
	y.Hold(6)
	lists(t, "P10.1", x, api.ExtState{Num: 6, Serial: 1, Holds: 1})
	x.Write(6, 3, all(8))
	reads(t, "P10.1: whoever has the disk sees the same bytes", y, 6, 3, all(8), api.OK)
	d.Write(195, all(9))
	reads(t, "P10.1: whoever has the disk sees the same bytes", x, 6, 3, all(9), api.OK)
	x.Drop(6)
	lists(t, "P10.1", y, api.ExtState{Num: 6, Serial: 2, Holds: 2})
	other := full(disk.New())
	reads(t, "P10.1: another disk", other, 6, 3, all(0), api.OK)
}

func TestNothingIsShared(t *testing.T) {
	d := disk.New()
	x := full(d)
	data := bytes.Repeat([]byte{6}, 200)[:128]
	x.Write(1, 1, data)
	if !bytes.Equal(data[:200], bytes.Repeat([]byte{6}, 200)) {
		t.Error("P10.1: Write changed what it was given")
	}
	clear(data)
	reads(t, "P10.1: what is given is not kept", x, 1, 1, all(6), api.OK)
	b, _ := x.Read(1, 1)
	clear(b[:cap(b)])
	reads(t, "P10.1: an answer of Read is new memory", x, 1, 1, all(6), api.OK)
	want := x.List()
	l := x.List()
	clear(l[:cap(l)])
	lists(t, "P10.1: an answer of List is new memory", x, want...)
}
