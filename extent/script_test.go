package extent_test

import (
	"bytes"
	"fmt"
	"math"
	"slices"
	"testing"

	"amber/api"
	"amber/disk"
	"amber/extent"
)

// table: the calls of the chapter, which the package and the model below both have.
type table interface {
	Claim(n, serial int) (int, api.Errno)
	Hold(n int) api.Errno
	Drop(n int) (bool, api.Errno)
	Serial(n int) (int, api.Errno)
	Read(n, sector int) ([]byte, api.Errno)
	Write(n, sector int, data []byte) api.Errno
	Flush() api.Errno
	List() []api.ExtState
}

// holder: one hold on an extent, with the serial that its claimer gave.
type holder struct {
	extent, serial int
}

// model has one entry a hold and counts them anew each time; it finds a sector by going through the disk.
type model struct {
	holders []holder
	d       *disk.Disk
}

func (m *model) held(n int) []holder {
	var out []holder
	for _, h := range m.holders {
		if h.extent == n {
			out = append(out, h)
		}
	}
	return out
}

func (m *model) Claim(n, serial int) (int, api.Errno) {
	if serial <= 0 || serial >= 1<<62 {
		return -1, api.ErrArg
	}
	free := slices.DeleteFunc(upTo(32), func(n int) bool { return len(m.held(n)) > 0 })
	if n == -1 && len(free) == 0 {
		return -1, api.ErrNoSpace
	}
	if n == -1 {
		n = free[0]
	}
	if !slices.Contains(upTo(32), n) {
		return -1, api.ErrExtent
	}
	if !slices.Contains(free, n) {
		return -1, api.ErrClaimed
	}
	m.holders = append(m.holders, holder{n, serial})
	return n, api.OK
}

func (m *model) Hold(n int) api.Errno {
	l := m.held(n)
	if len(l) == 0 {
		return api.ErrExtent
	}
	m.holders = append(m.holders, l[0])
	return api.OK
}

func (m *model) Drop(n int) (bool, api.Errno) {
	l := m.held(n)
	if len(l) == 0 {
		return false, api.ErrExtent
	}
	at := slices.Index(m.holders, l[0])
	m.holders = slices.Delete(m.holders, at, at+1)
	return len(l) == 1, api.OK
}

func (m *model) Serial(n int) (int, api.Errno) {
	l := m.held(n)
	if len(l) == 0 {
		return 0, api.ErrExtent
	}
	return l[0].serial, api.OK
}

// sector: each extent begins where the one ahead of it ends.
func (m *model) sector(n, i int) (int, api.Errno) {
	if len(m.held(n)) == 0 {
		return 0, api.ErrExtent
	}
	if !slices.Contains(upTo(32), i) {
		return 0, api.ErrSector
	}
	first := 0
	for range n {
		first += 32
	}
	return upTo(1024)[first:][i], api.OK
}

func (m *model) Read(n, i int) ([]byte, api.Errno) {
	at, code := m.sector(n, i)
	if code != api.OK {
		return nil, code
	}
	return m.d.Read(at)
}

func (m *model) Write(n, i int, data []byte) api.Errno {
	at, code := m.sector(n, i)
	if code != api.OK {
		return code
	}
	return m.d.Write(at, data)
}

func (m *model) Flush() api.Errno { return m.d.Flush() }

func (m *model) List() []api.ExtState {
	var out []api.ExtState
	for n := range 32 {
		if l := m.held(n); len(l) > 0 {
			out = append(out, api.ExtState{Num: n, Serial: l[0].serial, Holds: len(l)})
		}
	}
	return out
}

func upTo(n int) []int {
	out := make([]int, n)
	for i := range out {
		out[i] = i
	}
	return out
}

// dice: numbers by a fixed rule, so that each run of the test is the same.
type dice uint64

func (d *dice) below(n int) int {
	*d = *d*6364136223846793005 + 1442695040888963407
	return int(uint64(*d)>>33) % n
}

func (d *dice) of(l ...int) int { return l[d.below(len(l))] }

// number: mostly one below most, now and then one that is none.
func (d *dice) number(most int) int {
	if d.below(12) == 0 {
		return d.of(-2, -1, 32, 33, 1024, 1<<59, math.MinInt, math.MaxInt)
	}
	return d.below(most)
}

func (d *dice) serial() int {
	if d.below(12) == 0 {
		return d.of(-1, 0, 1<<62, 1<<62-1, math.MinInt, math.MaxInt)
	}
	return 1 + d.below(50)
}

func (d *dice) data() []byte {
	if d.below(10) == 0 {
		return make([]byte, d.of(0, 127, 129, 4096))
	}
	return all(byte(d.below(256)))
}

// act: one call, told and to be done on any table.
type act struct {
	name string
	do   func(t table) string
}

func (d *dice) act(most int) act {
	n, i, s, data := d.number(most), d.number(32), d.serial(), d.data()
	switch d.below(11) {
	case 0, 1:
		return act{fmt.Sprint("Claim ", -1, s), func(t table) string { return fmt.Sprint(t.Claim(-1, s)) }}
	case 2, 3:
		return act{fmt.Sprint("Claim ", n, s), func(t table) string { return fmt.Sprint(t.Claim(n, s)) }}
	case 4:
		return act{fmt.Sprint("Hold ", n), func(t table) string { return fmt.Sprint(t.Hold(n)) }}
	case 5, 6:
		return act{fmt.Sprint("Drop ", n), func(t table) string { return fmt.Sprint(t.Drop(n)) }}
	case 7:
		return act{"Flush", func(t table) string { return fmt.Sprint(t.Flush()) }}
	case 8:
		return act{fmt.Sprint("Read ", n, i), func(t table) string { return fmt.Sprint(t.Read(n, i)) }}
	default:
		return act{fmt.Sprint("Write ", n, i, len(data)), func(t table) string { return fmt.Sprint(t.Write(n, i, data)) }}
	}
}

// outage: the same thing happens to both disks.
func (d *dice) outage(disks ...*disk.Disk) {
	arm, left, keep := d.below(2) == 0, d.below(6), []bool{d.below(2) == 0, d.below(2) == 0, d.below(2) == 0}
	for _, x := range disks {
		if arm {
			x.Arm(left)
		} else {
			x.Crash(keep)
		}
	}
}

// tell: what a table tells of its claims, the serials asked one by one.
func tell(t table) string {
	s := fmt.Sprint(t.List())
	for n := range 35 {
		s += fmt.Sprint(t.Serial(n - 2))
	}
	return s
}

func TestScriptsAgainstTheModel(t *testing.T) {
	for seed := range 60 {
		r := dice(seed)
		most := r.of(3, 8, 32)
		d, twin := disk.New(), disk.New()
		x, m := extent.New(d), &model{d: twin}
		for k := range 300 {
			if r.below(25) == 0 {
				r.outage(d, twin)
			}
			c := r.act(most)
			if got, want := c.do(x), c.do(m); got != want {
				t.Fatalf("P10.1: seed %d, call %d: %s: %s, want %s", seed, k, c.name, got, want)
			}
			if now, want := tell(x), tell(m); now != want {
				t.Fatalf("P10.3: seed %d, call %d: %s: the table is %s, want %s", seed, k, c.name, now, want)
			}
			if d.Acts() != twin.Acts() || d.Down() != twin.Down() || !slices.Equal(d.Pending(), twin.Pending()) {
				t.Fatalf("P10.4: seed %d, call %d: %s: %d acts, down %v, pending %v; want %d, %v, %v", seed, k, c.name, d.Acts(), d.Down(), d.Pending(), twin.Acts(), twin.Down(), twin.Pending())
			}
		}
		if !bytes.Equal(d.Medium(), twin.Medium()) {
			t.Fatalf("P10.2: seed %d: the medium is not what was written", seed)
		}
	}
}

// TestWallsBetweenTwo: two that may use some extents each, of one table, and write at any place: neither changes the other's.
func TestWallsBetweenTwo(t *testing.T) {
	for seed := range 20 {
		r := dice(seed)
		d := disk.New()
		x := extent.New(d)
		owner := map[int]int{}
		for n := range 32 {
			owner[n] = r.below(3) // 0: nobody
			if owner[n] > 0 {
				x.Claim(n, n+1)
			}
		}
		for range 200 {
			n, i, data := r.number(32), r.number(32), r.data()
			before := d.Medium()
			x.Write(n, i, data)
			x.Flush()
			now := d.Medium()
			for other, who := range owner {
				from, to := other*4096, other*4096+4096
				if who != owner[n] && !bytes.Equal(now[from:to], before[from:to]) {
					t.Fatalf("P10.2: seed %d: Write(%d, %d) changed extent %d of another", seed, n, i, other)
				}
			}
		}
	}
}
