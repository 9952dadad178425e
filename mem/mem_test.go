package mem_test

import (
	"bytes"
	"math"
	"slices"
	"testing"

	"amber/api"
	"amber/mem"
)

const maxSerial = 1<<62 - 1

// noSerials: numbers that are neither a serial nor a mark.
var noSerials = []int{math.MinInt, -maxSerial, -1 << 32, -1, 0, maxSerial + 1, maxSerial + 2, math.MaxInt}

// farNumbers: numbers that are neither a frame of any memory nor a word of any frame.
var farNumbers = []int{math.MinInt, -1 << 32, -64, -2, -1, 64, 65, 1 << 31, 1 << 32, 1<<32 + 1, 1 << 58, math.MaxInt}

// is holds what a call answered against what its rule says.
func is(t *testing.T, what string, got, want api.Errno) {
	t.Helper()
	if got != want {
		t.Errorf("%s = %d; want %d", what, got, want)
	}
}

// says asks for a truth and an error.
func says(t *testing.T, what string, got bool, e api.Errno, want bool, code api.Errno) {
	t.Helper()
	if got != want || e != code {
		t.Errorf("%s = %v, %d; want %v, %d", what, got, e, want, code)
	}
}

// takes asks Alloc.
func takes(t *testing.T, promise string, m *mem.Mem, serial, want int, code api.Errno) {
	t.Helper()
	if f, e := m.Alloc(serial); f != want || e != code {
		t.Errorf("%s: Alloc(%d) = %d, %d; want %d, %d", promise, serial, f, e, want, code)
	}
}

// told asks Info of a frame in use.
func told(t *testing.T, promise string, m *mem.Mem, f int, want api.Frame) {
	t.Helper()
	if got, e := m.Info(f); got != want || e != api.OK {
		t.Errorf("%s: Info(%d) = %+v, %d; want %+v, OK", promise, f, got, e, want)
	}
}

// word asks Load.
func word(t *testing.T, promise string, m *mem.Mem, f, i int, want uint32, code api.Errno) {
	t.Helper()
	if got, e := m.Load(f, i); got != want || e != code {
		t.Errorf("%s: Load(%d, %d) = %d, %d; want %d, %d", promise, f, i, got, e, want, code)
	}
}

// holds asks Page of a frame in use.
func holds(t *testing.T, promise string, m *mem.Mem, f int, want api.Page) {
	t.Helper()
	if got, e := m.Page(f); got != want || e != api.OK {
		t.Errorf("%s: Page(%d) = %v, %d; want %v, OK", promise, f, got, e, want)
	}
}

// used asks which frames are in use, and how many are free.
func used(t *testing.T, promise string, m *mem.Mem, free int, live ...int) {
	t.Helper()
	if m.Free() != free || !slices.Equal(m.Live(), live) {
		t.Errorf("%s: Free %d, Live %v; want %d, %v", promise, m.Free(), m.Live(), free, live)
	}
}

// counting: a page whose words all differ.
func counting(first uint32) api.Page {
	var p api.Page
	for i := range p {
		p[i] = first + uint32(i)*0x01010101
	}
	return p
}

// full: a memory of n frames, all in use, clean, their words telling them apart; frame f has serial f + 1 and mark 100 + f.
func full(n int) *mem.Mem {
	m := mem.New(n)
	for f := range n {
		m.Alloc(f + 1)
		m.SetPage(f, counting(uint32(f*1000)))
		m.Clean(f, 100+f)
	}
	return m
}

// picture: all that is told of a memory.
type picture struct {
	free  int
	live  []int
	infos []api.Frame
	pages []api.Page
}

func taken(m *mem.Mem) picture {
	p := picture{free: m.Free(), live: m.Live()}
	for _, f := range p.live {
		info, _ := m.Info(f)
		page, _ := m.Page(f)
		p.infos, p.pages = append(p.infos, info), append(p.pages, page)
	}
	return p
}

func (p picture) same(q picture) bool {
	return p.free == q.free && slices.Equal(p.live, q.live) && slices.Equal(p.infos, q.infos) && slices.Equal(p.pages, q.pages)
}

// apart tells whether the two pictures, of the same frames, differ in frame f at most.
func (p picture) apart(q picture, f int) bool {
	for i, g := range p.live {
		if g != f && (p.infos[i] != q.infos[i] || p.pages[i] != q.pages[i]) {
			return false
		}
	}
	return p.free == q.free && slices.Equal(p.live, q.live)
}

func TestSizes(t *testing.T) {
	for _, c := range []struct{ asked, frames int }{
		{math.MinInt, 0}, {-1, 0}, {0, 0}, {1, 1}, {2, 2}, {63, 63}, {64, 64}, {65, 64}, {1000, 64}, {math.MaxInt, 64},
	} {
		m := mem.New(c.asked)
		used(t, "P5.1", m, c.frames)
		for f := range c.frames {
			is(t, "P5.1: Hold of a new memory's frame", m.Hold(f), api.ErrFrame)
		}
		takes(t, "P5.2: serial ahead of space", m, 0, -1, api.ErrArg)
		for f := range c.frames {
			takes(t, "P5.2", m, 1000+f, f, api.OK)
			told(t, "P5.2", m, f, api.Frame{Serial: 1000 + f, Holds: 1, Dirty: true})
			holds(t, "P5.2", m, f, api.Page{})
		}
		takes(t, "P5.2", m, 7, -1, api.ErrNoSpace)
		takes(t, "P5.2: serial ahead of space", m, maxSerial+1, -1, api.ErrArg)
		if m.Free() != 0 || len(m.Live()) != c.frames {
			t.Errorf("P5.8: a full memory: Free %d, Live %v", m.Free(), m.Live())
		}
		_, e := m.Info(c.frames)
		is(t, "P5.1: Info of the number behind the last frame", e, api.ErrFrame)
	}
}

func TestSerials(t *testing.T) {
	m := mem.New(4)
	for _, n := range noSerials {
		takes(t, "P5.2", m, n, -1, api.ErrArg)
	}
	used(t, "P5.10: refused", m, 4)
	for f, serial := range []int{1, maxSerial, 1 << 32, 1} {
		takes(t, "P5.2", m, serial, f, api.OK)
		told(t, "P5.2", m, f, api.Frame{Serial: serial, Holds: 1, Dirty: true})
	}
}

// TestLowestFree: whichever frames are free, the lowest of them is taken, as new.
func TestLowestFree(t *testing.T) {
	for free := range 1 << 5 {
		m := full(5)
		var want []int
		for f := range 5 {
			if free>>f&1 == 1 {
				gone, e := m.Drop(f)
				says(t, "P5.3: Drop of the last hold", gone, e, true, api.OK)
				want = append(want, f)
			}
		}
		if m.Free() != len(want) || len(m.Live()) != 5-len(want) {
			t.Errorf("P5.8: of 5, without %v: Free %d, Live %v", want, m.Free(), m.Live())
		}
		for _, f := range want {
			takes(t, "P5.2", m, 50+f, f, api.OK)
			told(t, "P5.2: nothing of before is told", m, f, api.Frame{Serial: 50 + f, Holds: 1, Dirty: true})
			holds(t, "P5.2: nothing of before is seen", m, f, api.Page{})
		}
		takes(t, "P5.2", m, 9, -1, api.ErrNoSpace)
		used(t, "P5.8", m, 0, 0, 1, 2, 3, 4)
	}
}

func TestHolds(t *testing.T) {
	m := full(3)
	for n := range 500 {
		told(t, "P5.3", m, 1, api.Frame{Serial: 2, Holds: 1 + n, Mark: 101})
		is(t, "P5.3: Hold", m.Hold(1), api.OK)
	}
	for n := range 500 {
		gone, e := m.Drop(1)
		says(t, "P5.3: Drop", gone, e, false, api.OK)
		told(t, "P5.3: a drop changes holds alone", m, 1, api.Frame{Serial: 2, Holds: 500 - n, Mark: 101})
	}
	holds(t, "P5.10: holds changed words", m, 1, counting(1000))
	used(t, "P5.3", m, 0, 0, 1, 2)
	gone, e := m.Drop(1)
	says(t, "P5.3: the last Drop", gone, e, true, api.OK)
	used(t, "P5.3", m, 1, 0, 2)
	for range 2 {
		gone, e = m.Drop(1)
		says(t, "P5.3: Drop of a free frame", gone, e, false, api.ErrFrame)
		is(t, "P5.3: Hold of a free frame", m.Hold(1), api.ErrFrame)
	}
	used(t, "P5.10", m, 1, 0, 2)
}

func TestEveryWord(t *testing.T) {
	m := full(3)
	for i := range 32 {
		word(t, "P5.4", m, 1, i, 1000+uint32(i)*0x01010101, api.OK)
		for _, v := range []uint32{0, 1, 1 << 31, math.MaxUint32, uint32(i) * 7} {
			before, _ := m.Page(1)
			m.Clean(1, 200)
			was, _ := m.Info(1)
			is(t, "P5.4: Store", m.Store(1, i, v), api.OK)
			before[i] = v
			holds(t, "P5.4: one word alone", m, 1, before)
			word(t, "P5.4", m, 1, i, v, api.OK)
			was.Dirty = true
			told(t, "P5.4", m, 1, was)
		}
		holds(t, "P5.10: another frame", m, 0, counting(0))
		holds(t, "P5.10: another frame", m, 2, counting(2000))
	}
}

// TestDirtyBySameWords: writing what is there is a write.
func TestDirtyBySameWords(t *testing.T) {
	m := full(2)
	dirty := api.Frame{Serial: 1, Holds: 1, Dirty: true, Mark: 100}
	is(t, "P5.4: Store of the word that is there", m.Store(0, 0, 0), api.OK)
	told(t, "P5.4", m, 0, dirty)
	m = full(2)
	is(t, "P5.5: SetPage of the page that is there", m.SetPage(0, counting(0)), api.OK)
	told(t, "P5.5", m, 0, dirty)
	m = full(2)
	is(t, "P5.6: Copy of a frame to itself", m.Copy(0, 0), api.OK)
	told(t, "P5.6", m, 0, dirty)
	holds(t, "P5.6", m, 0, counting(0))
	m = full(2)
	m.SetPage(1, counting(0))
	m.Copy(1, 0)
	told(t, "P5.6: Copy of equal words", m, 0, dirty)
}

func TestPages(t *testing.T) {
	m := full(3)
	p := counting(77)
	is(t, "P5.5: SetPage", m.SetPage(2, p), api.OK)
	told(t, "P5.5", m, 2, api.Frame{Serial: 3, Holds: 1, Dirty: true, Mark: 102})
	p[0], p[31] = 1, 2
	holds(t, "P5.5: the page handed in is not kept", m, 2, counting(77))
	q, _ := m.Page(2)
	q[5] = 9
	holds(t, "P5.5: the page answered is apart", m, 2, counting(77))
	for i := range 32 {
		word(t, "P5.5", m, 2, i, counting(77)[i], api.OK)
	}
	holds(t, "P5.10", m, 0, counting(0))
	holds(t, "P5.10", m, 1, counting(1000))
}

func TestCopies(t *testing.T) {
	m := full(4)
	is(t, "P5.6: Copy", m.Copy(3, 1), api.OK)
	holds(t, "P5.6", m, 1, counting(3000))
	holds(t, "P5.6", m, 3, counting(3000))
	told(t, "P5.6", m, 1, api.Frame{Serial: 2, Holds: 1, Dirty: true, Mark: 101})
	told(t, "P5.10: the frame copied from", m, 3, api.Frame{Serial: 4, Holds: 1, Mark: 103})
	m.Store(3, 31, 5)
	holds(t, "P5.6: a copy is apart", m, 1, counting(3000))
	m.Store(1, 0, 6)
	word(t, "P5.6: a copy is apart", m, 3, 0, 3000, api.OK)
	holds(t, "P5.10: another frame", m, 0, counting(0))
	holds(t, "P5.10: another frame", m, 2, counting(2000))
}

func TestSame(t *testing.T) {
	m := full(3)
	for f := range 3 {
		for g := range 3 {
			same, e := m.Same(f, g)
			says(t, "P5.6: Same", same, e, f == g, api.OK)
		}
	}
	m.Copy(0, 2)
	for i := range 32 {
		m.Store(2, i, uint32(i)*0x01010101+1)
		for _, c := range [][2]int{{0, 2}, {2, 0}} {
			same, e := m.Same(c[0], c[1])
			says(t, "P5.6: Same, one word apart", same, e, false, api.OK)
		}
		m.Store(2, i, uint32(i)*0x01010101)
		same, e := m.Same(2, 0)
		says(t, "P5.6: Same by words alone, whatever else is told of the frames", same, e, true, api.OK)
	}
}

func TestMarks(t *testing.T) {
	m := mem.New(2)
	m.Alloc(5)
	m.Store(0, 4, 44)
	for _, n := range noSerials {
		done, e := m.Clean(0, n)
		says(t, "P5.7: Clean of a dirty frame", done, e, false, api.ErrArg)
		done, e = m.Clean(1, n)
		says(t, "P5.7: frame ahead of mark", done, e, false, api.ErrFrame)
	}
	told(t, "P5.10: refused", m, 0, api.Frame{Serial: 5, Holds: 1, Dirty: true})
	for _, mark := range []int{9, 1, maxSerial, 9} {
		done, e := m.Clean(0, mark)
		says(t, "P5.7: Clean of a dirty frame", done, e, true, api.OK)
		for _, other := range []int{mark, 10, maxSerial} {
			done, e = m.Clean(0, other)
			says(t, "P5.7: Clean of a clean frame", done, e, false, api.OK)
		}
		for _, n := range noSerials {
			done, e = m.Clean(0, n)
			says(t, "P5.7: Clean of a clean frame", done, e, false, api.ErrArg)
		}
		told(t, "P5.7", m, 0, api.Frame{Serial: 5, Holds: 1, Mark: mark})
		word(t, "P5.10: Clean changed a word", m, 0, 4, 44, api.OK)
		m.Store(0, 4, 44)
		told(t, "P5.7: the mark outlives the write", m, 0, api.Frame{Serial: 5, Holds: 1, Dirty: true, Mark: mark})
	}
}

// refusals: every call that names a frame or word that is not there, each with what it must answer.
func refusals(t *testing.T, m *mem.Mem, f int) {
	t.Helper()
	is(t, "P5.3: Hold", m.Hold(f), api.ErrFrame)
	gone, e := m.Drop(f)
	says(t, "P5.3: Drop", gone, e, false, api.ErrFrame)
	for _, i := range append([]int{0, 31, 32}, farNumbers...) {
		word(t, "P5.4: frame ahead of word", m, f, i, 0, api.ErrFrame)
		is(t, "P5.4: Store", m.Store(f, i, 7), api.ErrFrame)
	}
	p, e := m.Page(f)
	if p != (api.Page{}) || e != api.ErrFrame {
		t.Errorf("P5.5: Page(%d) = %v, %d; want the zero page, ErrFrame", f, p, e)
	}
	is(t, "P5.5: SetPage", m.SetPage(f, counting(1)), api.ErrFrame)
	for _, other := range []int{0, 1, f} {
		is(t, "P5.6: Copy from", m.Copy(f, other), api.ErrFrame)
		is(t, "P5.6: Copy to", m.Copy(other, f), api.ErrFrame)
		same, e := m.Same(f, other)
		says(t, "P5.6: Same", same, e, false, api.ErrFrame)
		same, e = m.Same(other, f)
		says(t, "P5.6: Same", same, e, false, api.ErrFrame)
	}
	done, e := m.Clean(f, 5)
	says(t, "P5.7: Clean", done, e, false, api.ErrFrame)
	x, e := m.Info(f)
	if x != (api.Frame{}) || e != api.ErrFrame {
		t.Errorf("P5.8: Info(%d) = %+v, %d; want the zero Frame, ErrFrame", f, x, e)
	}
}

func TestNoSuchFrame(t *testing.T) {
	m := full(4)
	m.Drop(2)
	before := taken(m)
	for _, f := range append([]int{2, 4, 5, 63}, farNumbers...) {
		refusals(t, m, f)
	}
	if !before.same(taken(m)) {
		t.Error("P5.10: refused calls changed the memory")
	}
	none := mem.New(0)
	refusals(t, none, 0)
	used(t, "P5.10", none, 0)
}

func TestNoSuchWord(t *testing.T) {
	m := full(2)
	before := taken(m)
	for _, i := range append([]int{32, 33}, farNumbers...) {
		word(t, "P5.4", m, 1, i, 0, api.ErrWord)
		is(t, "P5.4: Store", m.Store(1, i, 7), api.ErrWord)
	}
	if !before.same(taken(m)) {
		t.Error("P5.10: refused calls changed the memory")
	}
}

// TestOneFrameAlone: no call changes another frame than the one it names.
func TestOneFrameAlone(t *testing.T) {
	for f := range 5 {
		for name, call := range map[string]func(m *mem.Mem){
			"Hold":    func(m *mem.Mem) { m.Hold(f) },
			"Store":   func(m *mem.Mem) { m.Store(f, f, 9) },
			"SetPage": func(m *mem.Mem) { m.SetPage(f, counting(5)) },
			"Copy":    func(m *mem.Mem) { m.Copy((f+1)%5, f) },
			"Clean":   func(m *mem.Mem) { m.Store(f, 1, 1); m.Clean(f, 9) },
			"Drop":    func(m *mem.Mem) { m.Hold(f); m.Drop(f) },
			"Alloc":   func(m *mem.Mem) { m.Drop(f); m.Alloc(77) },
		} {
			m := full(5)
			before := taken(m)
			call(m)
			if !before.apart(taken(m), f) {
				t.Errorf("P5.10: %s of frame %d changed another frame", name, f)
			}
		}
	}
}

func TestTellingChangesNothing(t *testing.T) {
	m := full(3)
	m.Drop(1)
	before := taken(m)
	for range 3 {
		m.Page(0)
		m.Load(2, 5)
		m.Same(0, 2)
		m.Info(0)
		m.Free()
		m.Live()
	}
	if !before.same(taken(m)) {
		t.Error("P5.10: a call that tells changed the memory")
	}
	live := m.Live()
	for i := range live[:cap(live)] {
		live[:cap(live)][i] = 50
	}
	used(t, "P5.8: an answer of Live is new memory", m, 1, 0, 2)
}

func TestMemoriesAreApart(t *testing.T) {
	a, b := full(2), full(2)
	before := taken(b)
	a.Store(0, 0, 9)
	a.Hold(1)
	a.Drop(0)
	if !before.same(taken(b)) {
		t.Error("P5.10: a call changed another memory")
	}
}

func TestPackEveryByte(t *testing.T) {
	if b := mem.Pack(api.Page{}); !bytes.Equal(b, make([]byte, 128)) {
		t.Errorf("P5.9: Pack of the zero page: %x", b)
	}
	for at := range 128 {
		want := make([]byte, 128)
		want[at] = 0xa5
		var p api.Page
		p[at/4] = []uint32{0xa5, 0xa500, 0xa50000, 0xa5000000}[at%4]
		if b := mem.Pack(p); !bytes.Equal(b, want) {
			t.Errorf("P5.9: Pack, byte %d: %x", at, b)
		}
		if q, e := mem.Unpack(want); q != p || e != api.OK {
			t.Errorf("P5.9: Unpack, byte %d: %x, %d", at, q, e)
		}
	}
	every := slices.Repeat([]uint32{math.MaxUint32}, 32)
	if p, e := mem.Unpack(bytes.Repeat([]byte{255}, 128)); p != api.Page(every) || e != api.OK {
		t.Errorf("P5.9: Unpack of 128 bytes ff: %x, %d", p, e)
	}
}

func TestPackThereAndBack(t *testing.T) {
	r := dice(5)
	for range 300 {
		b := make([]byte, 128, 200)
		for i := range b {
			b[i] = byte(r.below(256))
		}
		given := slices.Clone(b)
		p, e := mem.Unpack(b)
		back := mem.Pack(p)
		if e != api.OK || !bytes.Equal(back, given) || !bytes.Equal(b, given) {
			t.Fatalf("P5.9: Pack(Unpack(%x)) = %x, %d; b is %x behind it", given, back, e, b)
		}
		clear(b)
		if !bytes.Equal(mem.Pack(p), given) {
			t.Fatal("P5.9: Unpack keeps b")
		}
		clear(back[:cap(back)])
		if !bytes.Equal(mem.Pack(p), given) {
			t.Fatal("P5.9: answers of Pack share memory")
		}
	}
}

func TestUnpackOtherSizes(t *testing.T) {
	for n := range 300 {
		p, e := mem.Unpack(bytes.Repeat([]byte{1}, n))
		if n != 128 && (p != (api.Page{}) || e != api.ErrSize) {
			t.Errorf("P5.9: Unpack of %d bytes: %v, %d; want the zero page, ErrSize", n, p, e)
		}
	}
	if p, e := mem.Unpack(nil); p != (api.Page{}) || e != api.ErrSize {
		t.Errorf("P5.9: Unpack(nil) = %v, %d; want the zero page, ErrSize", p, e)
	}
}
