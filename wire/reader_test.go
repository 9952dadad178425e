package wire_test

import (
	"bytes"
	"math"
	"testing"

	"amber/api"
	"amber/crc"
	"amber/wire"
)

// at holds a reader's place and error against what they must be.
func at(t *testing.T, promise string, r *wire.Reader, left int, code api.Errno) {
	t.Helper()
	if r.Left() != left || r.Err() != code {
		t.Errorf("%s: Left %d, Err %d; want %d, %d", promise, r.Left(), r.Err(), left, code)
	}
	end := code
	if end == api.OK && left > 0 {
		end = api.ErrTrail
	}
	if r.End() != end || r.Left() != left || r.Err() != code {
		t.Errorf("%s: End %d, want %d; behind it Left %d, Err %d", promise, r.End(), end, r.Left(), r.Err())
	}
}

func TestReaderCopies(t *testing.T) {
	b := []byte{1, 2, 3}
	r := wire.NewReader(b)
	at(t, "P2.7", r, 3, api.OK)
	b[0] = 9
	if v := r.U8(); v != 1 {
		t.Errorf("P2.7: what the caller did behind NewReader is seen: %d", v)
	}
	b[1] = 9
	if v := r.Block(2); !bytes.Equal(v, []byte{2, 3}) {
		t.Errorf("P2.7: what the caller did behind NewReader is seen: %v", v)
	}
	if !bytes.Equal(b, []byte{9, 9, 3}) {
		t.Errorf("P2.7: the reader changed what it was given: %v", b)
	}
	at(t, "P2.7", wire.NewReader(nil), 0, api.OK)
	at(t, "P2.7", wire.NewReader([]byte{}), 0, api.OK)
}

func TestReadWidths(t *testing.T) {
	data := []byte{200, 2, 1, 0xF8, 0x79, 0x6A, 0x8B, 255, 255, 255, 255, 255, 255, 255, 127, 254, 255, 255, 255, 255, 255, 255, 255, 7}
	r := wire.NewReader(data)
	if v := r.U8(); v != 200 {
		t.Errorf("P2.8: U8 = %d", v)
	}
	if v := r.U16(); v != 258 {
		t.Errorf("P2.8: U16 = %d", v)
	}
	at(t, "P2.8", r, 21, api.OK)
	if v := r.U32(); v != 0x8B6A79F8 {
		t.Errorf("P2.8: U32 = %x", v)
	}
	if v := r.U64(); v != math.MaxInt {
		t.Errorf("P2.8: U64 = %x", v)
	}
	if v := r.U64(); v != -2 {
		t.Errorf("P2.8: U64 = %d, not in two's complement", v)
	}
	at(t, "P2.9", r, 1, api.OK)
	if v := r.U8(); v != 7 {
		t.Errorf("P2.8: U8 = %d", v)
	}
	at(t, "P2.9", r, 0, api.OK)
}

// reads: each of the calls that read, told as a number, and the bytes that it takes.
var reads = []struct {
	width int
	read  func(*wire.Reader) int
}{
	{1, func(r *wire.Reader) int { return r.U8() }},
	{2, func(r *wire.Reader) int { return r.U16() }},
	{4, func(r *wire.Reader) int { return int(r.U32()) }},
	{8, func(r *wire.Reader) int { return r.U64() }},
	{3, func(r *wire.Reader) int { return len(r.Block(3)) }},
	{4, func(r *wire.Reader) int { return len(r.Sealed(0)) }},
	{7, func(r *wire.Reader) int { return len(r.Sealed(3)) }},
}

func TestTooFewBytes(t *testing.T) {
	for i, c := range reads {
		for n := range c.width {
			r := wire.NewReader(bytes.Repeat([]byte{255}, n))
			if v := c.read(r); v != 0 {
				t.Errorf("P2.9: read %d of %d bytes answers %d", i, n, v)
			}
			at(t, "P2.8", r, n, api.ErrShort)
		}
	}
}

func TestReadersErrorStays(t *testing.T) {
	fails := []struct {
		code api.Errno
		read func(*wire.Reader) []byte
	}{
		{api.ErrShort, func(r *wire.Reader) []byte { return r.Block(99) }},
		{api.ErrShort, func(r *wire.Reader) []byte { return r.Sealed(99) }},
		{api.ErrArg, func(r *wire.Reader) []byte { return r.Block(-1) }},
		{api.ErrArg, func(r *wire.Reader) []byte { return r.Sealed(-1) }},
		{api.ErrSeal, func(r *wire.Reader) []byte { return r.Sealed(1) }},
	}
	for _, first := range fails {
		r := wire.NewReader(bytes.Repeat([]byte{7}, 20))
		r.U16()
		if v := first.read(r); v != nil {
			t.Errorf("P2.9: a read that fails answers %v", v)
		}
		at(t, "P2.9", r, 18, first.code)
		for i, c := range reads {
			if v := c.read(r); v != 0 {
				t.Errorf("P2.9: read %d behind error %d answers %d", i, first.code, v)
			}
			at(t, "P2.9", r, 18, first.code)
		}
		for _, second := range fails {
			if v := second.read(r); v != nil {
				t.Errorf("P2.9: a read behind an error answers %v", v)
			}
			at(t, "P2.9", r, 18, first.code)
		}
		if v := r.Block(0); len(v) != 0 || r.Err() != first.code {
			t.Errorf("P2.9: Block(0) behind an error: %v, %d", v, r.Err())
		}
	}
}

func TestReaderBlock(t *testing.T) {
	data := someBytes(3, 40)
	r := wire.NewReader(data)
	for _, n := range []int{0, 1, 7, 0, 32} {
		from := len(data) - r.Left()
		if b := r.Block(n); !bytes.Equal(b, data[from:from+n]) {
			t.Errorf("P2.8: Block(%d) = % x", n, b)
		}
		at(t, "P2.8", r, len(data)-from-n, api.OK)
	}
	for _, n := range []int{1, 2, 1 << 31, math.MaxInt} {
		r := wire.NewReader(data[:1])
		r.U8()
		if b := r.Block(n); b != nil {
			t.Errorf("P2.8: Block(%d) of no bytes = % x", n, b)
		}
		at(t, "P2.8", r, 0, api.ErrShort)
	}
	for _, n := range []int{-1, -4, -5, math.MinInt} {
		r := wire.NewReader(data)
		if b := r.Block(n); b != nil {
			t.Errorf("P2.8: Block(%d) = % x", n, b)
		}
		at(t, "P2.8", r, len(data), api.ErrArg)
	}
}

func TestReaderSealed(t *testing.T) {
	for _, n := range []int{0, 1, 2, 9, 100} {
		body := someBytes(5, n)
		data := append(append([]byte{3}, sealed(body)...), 9, 9)
		r := wire.NewReader(data)
		r.U8()
		if b := r.Sealed(n); !bytes.Equal(b, body) {
			t.Errorf("P2.8: Sealed(%d) = % x", n, b)
		}
		at(t, "P2.8", r, 2, api.OK)
		r = wire.NewReader(data[:1+n+4])
		r.U8()
		if b := r.Sealed(n); !bytes.Equal(b, body) || r.End() != api.OK {
			t.Errorf("P2.8: Sealed(%d) at the end = % x, End %d", n, b, r.End())
		}
	}
}

func TestSealedIsRefused(t *testing.T) {
	whole := sealed([]byte("123456789"))
	for _, c := range []struct {
		n    int
		code api.Errno
	}{
		{-1, api.ErrArg}, {-4, api.ErrArg}, {math.MinInt, api.ErrArg},
		{10, api.ErrShort}, {13, api.ErrShort}, {math.MaxInt, api.ErrShort}, {math.MaxInt - 3, api.ErrShort}, {math.MaxInt - 4, api.ErrShort},
		{8, api.ErrSeal}, {0, api.ErrSeal},
	} {
		r := wire.NewReader(whole)
		if b := r.Sealed(c.n); b != nil {
			t.Errorf("P2.8: Sealed(%d) = % x", c.n, b)
		}
		at(t, "P2.8", r, 13, c.code)
	}
	for i := range 9 * 8 {
		bad := bytes.Clone(whole)
		bad[i/8] ^= 1 << (i % 8)
		r := wire.NewReader(bad)
		if b := r.Sealed(9); b != nil {
			t.Errorf("P2.8: Sealed with bit %d turned = % x", i, b)
		}
		at(t, "P2.8", r, 13, api.ErrSeal)
	}
	for i := range 4 {
		bad := bytes.Clone(whole)
		bad[9+i] ^= 16
		r := wire.NewReader(bad)
		if b := r.Sealed(9); b != nil || r.Err() != api.ErrSeal {
			t.Errorf("P2.8: Sealed with byte %d of the sum spoilt = % x, %d", i, b, r.Err())
		}
	}
}

func TestWhatIsReadIsNewMemory(t *testing.T) {
	data := append(sealed([]byte{1, 2}), 3, 4, 5, 6)
	r := wire.NewReader(data)
	for _, b := range [][]byte{r.Sealed(2), r.Block(2)} {
		room := b[:cap(b)]
		for i := range room {
			room[i] = 99
		}
	}
	if v := r.U16(); v != 0x0605 {
		t.Errorf("P2.8: an answer shares the reader's memory: %x", v)
	}
	if data[0] != 1 || data[6] != 3 {
		t.Errorf("P2.8: an answer shares the caller's memory: % x", data)
	}
}

func TestEnd(t *testing.T) {
	r := wire.NewReader([]byte{1, 2})
	if v := r.U8(); v != 1 {
		t.Errorf("P2.8: U8 = %d", v)
	}
	at(t, "P2.9", r, 1, api.OK)
	r.Block(-1)
	at(t, "P2.9", r, 1, api.ErrArg)
	r = wire.NewReader(nil)
	at(t, "P2.9", r, 0, api.OK)
	r.U8()
	at(t, "P2.9", r, 0, api.ErrShort)
}

func TestWhatWasWrittenIsRead(t *testing.T) {
	w := wire.NewWriter(1 << 20)
	seed := uint32(1)
	numbers := make([]int, 300)
	for i := range numbers {
		seed = seed*1664525 + 1013904223
		numbers[i] = int(int32(seed)) * (1 << 31)
		v := numbers[i]
		w.U8(v & 255)
		w.U16(v >> 20 & 65535)
		w.U32(uint32(v >> 17))
		w.U64(v)
		w.Block(someBytes(seed, i%5))
		w.Open()
		w.Block(someBytes(seed, i))
		w.Seal()
	}
	b, e := w.Out()
	if e != api.OK {
		t.Fatalf("P2.13: Out: %d", e)
	}
	r := wire.NewReader(b)
	seed = 1
	for i, v := range numbers {
		seed = seed*1664525 + 1013904223
		if r.U8() != v&255 || r.U16() != v>>20&65535 || r.U32() != uint32(v>>17) || r.U64() != v {
			t.Fatalf("P2.13: numbers %d were not read as written", i)
		}
		if !bytes.Equal(r.Block(i%5), someBytes(seed, i%5)) || !bytes.Equal(r.Sealed(i), someBytes(seed, i)) {
			t.Fatalf("P2.13: bytes %d were not read as written", i)
		}
	}
	at(t, "P2.13", r, 0, api.OK)
}

func TestBurstsAreNotRead(t *testing.T) {
	masks := []uint32{1, 3, 0x80000001, math.MaxUint32, 0xEDB88320, 0xDB710641, 0x12345678}
	for _, n := range []int{4, 5, 9, 40} {
		body := someBytes(uint32(n), n)
		sum := sealed(body)[n:]
		for _, mask := range masks {
			for place := 0; place <= 8*n; place++ {
				bad, e := crc.Burst(body, place, mask)
				if e != api.OK {
					continue
				}
				r := wire.NewReader(append(bad, sum...))
				if b := r.Sealed(n); b != nil || r.Err() != api.ErrSeal || r.Left() != n+4 {
					t.Errorf("P2.13: %d bytes, mask %08x at %d: read as % x, %d", n, mask, place, b, r.Err())
				}
			}
		}
	}
}
