package wire_test

import (
	"bytes"
	"math"
	"testing"

	"amber/api"
	"amber/crc"
	"amber/wire"
)

// lowFirst is the document's order of bytes, kept apart from the package's own way of doing it.
func lowFirst(v uint64, width int) []byte {
	var out []byte
	for range width {
		out = append(out, byte(v%256))
		v /= 256
	}
	return out
}

// sealed is a body with its sum behind it.
func sealed(body []byte) []byte {
	return append(append([]byte{}, body...), lowFirst(uint64(crc.Sum(body)), 4)...)
}

// someBytes gives n bytes that look like nothing, always the same ones for the same seed.
func someBytes(seed uint32, n int) []byte {
	out := make([]byte, n)
	for i := range out {
		seed = seed*1664525 + 1013904223
		out[i] = byte(seed >> 24)
	}
	return out
}

// wrote holds a writer against what it must tell: a code other than OK hides the bytes, but not their number.
func wrote(t *testing.T, promise string, w *wire.Writer, want []byte, code api.Errno) {
	t.Helper()
	if w.Err() != code || w.Len() != len(want) {
		t.Errorf("%s: Err %d, Len %d; want %d, %d", promise, w.Err(), w.Len(), code, len(want))
	}
	b, e := w.Out()
	if code != api.OK {
		if b != nil || e != code {
			t.Errorf("%s: Out = % x, %d; want nil, %d", promise, b, e, code)
		}
		return
	}
	if !bytes.Equal(b, want) || e != api.OK {
		t.Errorf("%s: Out = % x, %d; want % x, OK", promise, b, e, want)
	}
}

// steps: each of the calls that write, with numbers that fit.
var steps = []func(*wire.Writer){
	func(w *wire.Writer) { w.U8(1) },
	func(w *wire.Writer) { w.U16(1) },
	func(w *wire.Writer) { w.U32(1) },
	func(w *wire.Writer) { w.U64(1) },
	func(w *wire.Writer) { w.Block([]byte{1, 2, 3}) },
	func(w *wire.Writer) { w.Block(nil) },
	func(w *wire.Writer) { w.Open() },
	func(w *wire.Writer) { w.Seal() },
}

func TestNewWriter(t *testing.T) {
	for _, limit := range []int{math.MinInt, -1, 0, 1, 7, 1<<20 - 1, 1 << 20, 1<<20 + 1, math.MaxInt} {
		bound := min(max(limit, 0), 1<<20)
		w := wire.NewWriter(limit)
		wrote(t, "P2.1", w, nil, api.OK)
		full := make([]byte, bound)
		w.Block(full)
		wrote(t, "P2.1", w, full, api.OK)
		w.U8(0)
		wrote(t, "P2.1", w, full, api.ErrNoSpace)
	}
	w := wire.NewWriter(9)
	w.Seal()
	if w.Err() != api.ErrNest {
		t.Errorf("P2.1: a new writer has an open run: %d", w.Err())
	}
}

func TestWritersAreApart(t *testing.T) {
	a, b := wire.NewWriter(4), wire.NewWriter(4)
	a.U16(1)
	b.U8(2)
	a.U16(-1)
	wrote(t, "P2.1", a, []byte{1, 0}, api.ErrArg)
	wrote(t, "P2.1", b, []byte{2}, api.OK)
}

func TestWidths(t *testing.T) {
	for _, v := range []int{0, 1, 127, 128, 200, 254, 255} {
		w := wire.NewWriter(1)
		w.U8(v)
		wrote(t, "P2.2", w, lowFirst(uint64(v), 1), api.OK)
	}
	for _, v := range []int{0, 1, 255, 256, 258, 32768, 65534, 65535} {
		w := wire.NewWriter(2)
		w.U16(v)
		wrote(t, "P2.2", w, lowFirst(uint64(v), 2), api.OK)
	}
	for _, v := range []uint32{0, 1, 255, 256, 65536, 1 << 24, 0x12345678, 1 << 31, math.MaxUint32} {
		w := wire.NewWriter(4)
		w.U32(v)
		wrote(t, "P2.2", w, lowFirst(uint64(v), 4), api.OK)
	}
	for _, v := range []int{0, 1, 1 << 32, 0x0123456789ABCDEF, math.MaxInt, -1, -2, -256, math.MinInt} {
		w := wire.NewWriter(8)
		w.U64(v)
		wrote(t, "P2.2", w, lowFirst(uint64(v), 8), api.OK)
	}
}

func TestTwosComplement(t *testing.T) {
	w := wire.NewWriter(16)
	w.U64(-2)
	w.U64(math.MinInt)
	wrote(t, "P2.2", w, []byte{254, 255, 255, 255, 255, 255, 255, 255, 0, 0, 0, 0, 0, 0, 0, 128}, api.OK)
}

func TestNumbersThatDontFit(t *testing.T) {
	for _, v := range []int{-1, 256, 257, 65536, 1 << 40, math.MaxInt, math.MinInt} {
		w := wire.NewWriter(9)
		w.U8(7)
		w.U8(v)
		wrote(t, "P2.2", w, []byte{7}, api.ErrArg)
	}
	for _, v := range []int{-1, 65536, 70000, 1 << 32, math.MaxInt, math.MinInt} {
		w := wire.NewWriter(9)
		w.U8(7)
		w.U16(v)
		wrote(t, "P2.2", w, []byte{7}, api.ErrArg)
	}
}

func TestWriterBlock(t *testing.T) {
	w := wire.NewWriter(100)
	b := make([]byte, 3, 8)
	copy(b, []byte{5, 6, 7})
	w.Block(b)
	w.U8(8)
	if !bytes.Equal(b[:8], []byte{5, 6, 7, 0, 0, 0, 0, 0}) {
		t.Errorf("P2.2: Block changed what it was given: %v", b[:8])
	}
	b[0] = 99
	w.Block([]byte{})
	w.Block(nil)
	wrote(t, "P2.2", w, []byte{5, 6, 7, 8}, api.OK)
}

func TestSealWritesTheSum(t *testing.T) {
	w := wire.NewWriter(100)
	w.Open()
	w.Block([]byte("123456789"))
	if b, e := w.Out(); b != nil || e != api.ErrNest {
		t.Errorf("P2.6: Out with an open run = % x, %d", b, e)
	}
	w.Seal()
	nine := []byte("123456789\x26\x39\xf4\xcb")
	wrote(t, "P2.3", w, nine, api.OK)
	w.Seal()
	wrote(t, "P2.3", w, nine, api.ErrNest)
	w.U8(1)
	wrote(t, "P2.3", w, nine, api.ErrNest)
}

func TestRunsWithinRuns(t *testing.T) {
	w := wire.NewWriter(100)
	w.U8(9)
	w.Open()
	w.Open()
	w.U8(1)
	w.Seal()
	w.Seal()
	want := append([]byte{9}, sealed(sealed([]byte{1}))...)
	wrote(t, "P2.3", w, want, api.OK)
	if !bytes.Equal(want[1:6], []byte{1, 0x1b, 0xdf, 5, 0xa5}) {
		t.Errorf("P2.3: the sum of 01 in % x", want)
	}

	w.Open()
	w.U8(2)
	w.Open()
	w.Seal()
	w.U8(3)
	w.Seal()
	body := append(append([]byte{2}, sealed(nil)...), 3)
	wrote(t, "P2.3", w, append(want, sealed(body)...), api.OK)
}

func TestMaxNest(t *testing.T) {
	w := wire.NewWriter(100)
	for range api.MaxNest {
		w.Open()
	}
	if w.Err() != api.OK {
		t.Fatalf("P2.3: MaxNest runs are refused: %d", w.Err())
	}
	var want []byte
	for range api.MaxNest {
		w.Seal()
		want = sealed(want)
	}
	wrote(t, "P2.3", w, want, api.OK)
	for range api.MaxNest + 1 {
		w.Open()
	}
	wrote(t, "P2.3", w, want, api.ErrNest)
}

func TestPastTheBound(t *testing.T) {
	sizes := []int{1, 2, 4, 8, 3}
	for i, n := range sizes {
		for limit := range n {
			w := wire.NewWriter(5 + limit)
			w.Block([]byte{9, 9, 9, 9, 9})
			steps[i](w)
			wrote(t, "P2.4", w, []byte{9, 9, 9, 9, 9}, api.ErrNoSpace)
		}
		w := wire.NewWriter(5 + n)
		w.Block([]byte{9, 9, 9, 9, 9})
		steps[i](w)
		if w.Err() != api.OK || w.Len() != 5+n {
			t.Errorf("P2.4: %d bytes to just the bound: %d, Len %d", n, w.Err(), w.Len())
		}
		w.Block(nil)
		if w.Err() != api.OK {
			t.Errorf("P2.4: no bytes at the bound: %d", w.Err())
		}
	}
}

func TestSealPastTheBound(t *testing.T) {
	for limit := 1; limit < 5; limit++ {
		w := wire.NewWriter(limit)
		w.Open()
		w.U8(1)
		w.Seal()
		wrote(t, "P2.4", w, []byte{1}, api.ErrNoSpace)
	}
	w := wire.NewWriter(5)
	w.Open()
	w.U8(1)
	w.Seal()
	wrote(t, "P2.4", w, sealed([]byte{1}), api.OK)
	w.Open()
	if w.Err() != api.OK {
		t.Errorf("P2.4: Open at the bound, which puts nothing: %d", w.Err())
	}
}

func TestOtherErrorsAheadOfNoSpace(t *testing.T) {
	w := wire.NewWriter(-5)
	w.Block(nil)
	wrote(t, "P2.4", w, nil, api.OK)
	w.U8(256)
	wrote(t, "P2.4", w, nil, api.ErrArg)
	w = wire.NewWriter(1)
	w.U16(-1)
	wrote(t, "P2.4", w, nil, api.ErrArg)
	w = wire.NewWriter(0)
	w.Seal()
	wrote(t, "P2.4", w, nil, api.ErrNest)
	w = wire.NewWriter(0)
	w.U8(255)
	wrote(t, "P2.4", w, nil, api.ErrNoSpace)
}

func TestFirstErrorStays(t *testing.T) {
	wrongs := []struct {
		code api.Errno
		step func(*wire.Writer)
	}{
		{api.ErrArg, func(w *wire.Writer) { w.U8(-1) }},
		{api.ErrArg, func(w *wire.Writer) { w.U16(1 << 16) }},
		{api.ErrNoSpace, func(w *wire.Writer) { w.Block(make([]byte, 99)) }},
		{api.ErrNest, func(w *wire.Writer) { w.Seal() }},
	}
	for _, first := range wrongs {
		w := wire.NewWriter(50)
		w.Block([]byte{4, 5})
		first.step(w)
		for _, step := range steps {
			step(w)
			wrote(t, "P2.5", w, []byte{4, 5}, first.code)
		}
		for _, second := range wrongs {
			second.step(w)
			wrote(t, "P2.5", w, []byte{4, 5}, first.code)
		}
	}
}

func TestFifthOpenStays(t *testing.T) {
	w := wire.NewWriter(50)
	for range api.MaxNest + 1 {
		w.Open()
	}
	for _, step := range steps {
		step(w)
		wrote(t, "P2.5", w, nil, api.ErrNest)
	}
}

func TestOutWithAnOpenRun(t *testing.T) {
	w := wire.NewWriter(50)
	w.Open()
	w.U8(1)
	for range 2 {
		if b, e := w.Out(); b != nil || e != api.ErrNest {
			t.Errorf("P2.6: Out with an open run = % x, %d", b, e)
		}
		if w.Err() != api.OK || w.Len() != 1 {
			t.Errorf("P2.6: Out changed the writer: Err %d, Len %d", w.Err(), w.Len())
		}
	}
	w.U8(2)
	w.Seal()
	wrote(t, "P2.6", w, sealed([]byte{1, 2}), api.OK)
	w.Open()
	w.U16(-1)
	if b, e := w.Out(); b != nil || e != api.ErrArg {
		t.Errorf("P2.6: the first error is not told ahead of the open run: % x, %d", b, e)
	}
}

func TestOutIsNewMemory(t *testing.T) {
	w := wire.NewWriter(50)
	w.Block([]byte{1, 2, 3})
	a, _ := w.Out()
	b, _ := w.Out()
	a = append(a[:cap(a)], 0)
	for i := range a {
		a[i] = 99
	}
	if !bytes.Equal(b, []byte{1, 2, 3}) {
		t.Errorf("P2.6: two answers of Out share memory: % x", b)
	}
	w.U8(4)
	wrote(t, "P2.6", w, []byte{1, 2, 3, 4}, api.OK)

	c, _ := w.Out()
	w.U8(5)
	if room := c[:cap(c)]; len(room) > 4 && room[4] == 5 {
		t.Error("P2.6: an answer's spare room is the writer's")
	}
	wrote(t, "P2.6", wire.NewWriter(3), nil, api.OK)
}
