package crc_test

import (
	"bytes"
	"math"
	"testing"

	"amber/api"
	"amber/crc"
)

// ruleUpdate is the document's rule, bit by bit, kept apart from the package's own way of doing it.
func ruleUpdate(sum uint32, data []byte) uint32 {
	s := ^sum
	for _, b := range data {
		s ^= uint32(b)
		for range 8 {
			if s&1 == 1 {
				s = s>>1 ^ 0xEDB88320
			} else {
				s >>= 1
			}
		}
	}
	return ^s
}

// someBytes gives n bytes that look like nothing, always the same ones for the same seed.
func someBytes(seed uint32, n int) []byte {
	out := make([]byte, n)
	for i := range out {
		seed = seed*1664525 + 1013904223
		out[i] = byte(seed >> 24)
	}
	return out
}

// someSums: numbers of 32 bits at the edges and between.
var someSums = []uint32{0, 1, 2, 5, 0x80000000, 0x7FFFFFFF, 0xFFFFFFFF, 0xFFFFFFFE, 0xEDB88320, 0x12345678, 0xDEADBEEF, 0x2144DF1C}

func joined(t *testing.T, a, b uint32, n int) uint32 {
	t.Helper()
	got, e := crc.Join(a, b, n)
	if e != api.OK {
		t.Fatalf("P1.2: Join(%08X, %08X, %d) is refused: %d", a, b, n, e)
	}
	return got
}

func TestSumExamples(t *testing.T) {
	cases := []struct {
		data string
		want uint32
	}{
		{"", 0},
		{"123456789", 0xCBF43926},
		{"\x00", 0xD202EF8D},
		{"\x01", 0xA505DF1B},
		{"\xff\xff\xff\xff", 0xFFFFFFFF},
		{"\x00\x00\x00\x00", 0x2144DF1C},
		{"amber", 0x46EE1682},
		{"am", 0x0E3C55FC},
		{"ber", 0x129349AE},
		{"amber\x82\x16\xee\x46", 0x2144DF1C},
	}
	for _, c := range cases {
		if got := crc.Sum([]byte(c.data)); got != c.want {
			t.Errorf("P1.1: Sum(%q) = %08X, want %08X", c.data, got, c.want)
		}
	}
	if got := crc.Sum(nil); got != 0 {
		t.Errorf("P1.1: Sum(nil) = %08X", got)
	}
}

func TestUpdateExamples(t *testing.T) {
	if got := crc.Update(0x0E3C55FC, []byte("ber")); got != 0x46EE1682 {
		t.Errorf("P1.1: Update(0E3C55FC, \"ber\") = %08X", got)
	}
	if got := crc.Update(0x12345678, []byte{0}); got != 0x8CCE22D5 {
		t.Errorf("P1.1: Update(12345678, 00) = %08X", got)
	}
}

func TestSumIsTheRule(t *testing.T) {
	for b := range 256 {
		data := []byte{byte(b)}
		if got, want := crc.Sum(data), ruleUpdate(0, data); got != want {
			t.Errorf("P1.1: Sum(%02x) = %08X, want %08X", b, got, want)
		}
	}
	for n := range 300 {
		data := someBytes(uint32(n), n)
		if got, want := crc.Sum(data), ruleUpdate(0, data); got != want {
			t.Errorf("P1.1: Sum of %d bytes = %08X, want %08X", n, got, want)
		}
	}
}

func TestUpdateIsTheRule(t *testing.T) {
	for _, s := range someSums {
		if got := crc.Update(s, nil); got != s {
			t.Errorf("P1.1: Update(%08X, nil) = %08X", s, got)
		}
		if got := crc.Update(s, []byte{}); got != s {
			t.Errorf("P1.1: Update(%08X, empty) = %08X", s, got)
		}
		for n := range 40 {
			data := someBytes(s, n)
			if got, want := crc.Update(s, data), ruleUpdate(s, data); got != want {
				t.Errorf("P1.1: Update(%08X, %d bytes) = %08X, want %08X", s, n, got, want)
			}
		}
	}
}

func TestUpdateGoesOn(t *testing.T) {
	data := someBytes(7, 60)
	for _, s := range someSums {
		whole := crc.Update(s, data)
		for cut := range len(data) + 1 {
			if got := crc.Update(crc.Update(s, data[:cut]), data[cut:]); got != whole {
				t.Errorf("P1.1: Update from %08X, cut at %d: %08X, want %08X", s, cut, got, whole)
			}
		}
	}
}

func TestOwnSumBehindTellsNothing(t *testing.T) {
	for n := range 20 {
		data := someBytes(uint32(n), n)
		s := crc.Sum(data)
		data = append(data, byte(s), byte(s>>8), byte(s>>16), byte(s>>24))
		if got := crc.Sum(data); got != 0x2144DF1C {
			t.Errorf("P1.1: %d bytes with their own sum behind them: %08X", n, got)
		}
	}
}

func TestJoinExamples(t *testing.T) {
	cases := []struct {
		a, b uint32
		n    int
		want uint32
	}{
		{0x0E3C55FC, 0x129349AE, 3, 0x46EE1682},
		{1, 2, 0, 3},
		{1, 2, 1, 0x77073094},
	}
	for _, c := range cases {
		if got := joined(t, c.a, c.b, c.n); got != c.want {
			t.Errorf("P1.2: Join(%08X, %08X, %d) = %08X, want %08X", c.a, c.b, c.n, got, c.want)
		}
	}
}

func TestJoinIsTheRule(t *testing.T) {
	zeros := make([]byte, 70000)
	for _, n := range []int{0, 1, 2, 3, 4, 5, 7, 8, 31, 32, 33, 255, 256, 257, 1000, 65535, 65536, 70000} {
		ofNone := ruleUpdate(0, zeros[:n])
		for i, a := range someSums {
			b := someSums[len(someSums)-1-i]
			want := ruleUpdate(a, zeros[:n]) ^ ofNone ^ b
			if got := joined(t, a, b, n); got != want {
				t.Errorf("P1.2: Join(%08X, %08X, %d) = %08X, want %08X", a, b, n, got, want)
			}
		}
	}
}

func TestJoinOfSums(t *testing.T) {
	data := someBytes(3, 200)
	for cut := range len(data) + 1 {
		x, y := data[:cut], data[cut:]
		if got := joined(t, crc.Sum(x), crc.Sum(y), len(y)); got != crc.Sum(data) {
			t.Errorf("P1.2: joined at %d: %08X, want %08X", cut, got, crc.Sum(data))
		}
	}
}

// The polynomial is primitive: a sum comes back behind 1<<32 - 1 bits. So the greatest lengths can be held against small ones.
func TestJoinOfGreatLengths(t *testing.T) {
	const period = 1<<32 - 1
	for i, a := range someSums {
		b := someSums[len(someSums)-1-i]
		for _, c := range []struct{ n, same int }{
			{period, 0}, {period + 1, 1}, {200 * period, 0}, {200*period + 77, 77}, {api.MaxJoin, 256}, {api.MaxJoin - 1, 255},
		} {
			if got, want := joined(t, a, b, c.n), joined(t, a, b, c.same); got != want {
				t.Errorf("P1.2: Join(%08X, %08X, %d) = %08X, want %08X", a, b, c.n, got, want)
			}
		}
	}
}

func TestJoinIsAssociative(t *testing.T) {
	lengths := []int{0, 1, 3, 300, 1 << 20, 1<<39 - 5, 1 << 39}
	for i, a := range someSums {
		b, c := ^a*3, someSums[(i+5)%len(someSums)]
		for _, nb := range lengths {
			for _, nc := range lengths {
				right := joined(t, a, joined(t, b, c, nc), nb+nc)
				left := joined(t, joined(t, a, b, nb), c, nc)
				if left != right {
					t.Errorf("P1.2: joining %08X, %08X (%d), %08X (%d): %08X and %08X", a, b, nb, c, nc, left, right)
				}
			}
		}
	}
}

func TestJoinRefuses(t *testing.T) {
	for _, n := range []int{-1, -2, math.MinInt, api.MaxJoin + 1, 2 * api.MaxJoin, math.MaxInt} {
		if got, e := crc.Join(1, 2, n); got != 0 || e != api.ErrArg {
			t.Errorf("P1.2: Join(1, 2, %d) = %08X, %d", n, got, e)
		}
	}
}

func TestDigestInPieces(t *testing.T) {
	data := someBytes(11, 100)
	for size := 1; size <= len(data); size++ {
		d := crc.New()
		for at := 0; at < len(data); at += size {
			d.Write(data[at:min(at+size, len(data))])
			d.Write(nil)
			if end := min(at+size, len(data)); d.Sum() != crc.Sum(data[:end]) || d.Len() != end {
				t.Fatalf("P1.5: pieces of %d, behind %d bytes: %08X, %d", size, end, d.Sum(), d.Len())
			}
		}
		if first, second := d.Sum(), d.Sum(); first != second || first != crc.Sum(data) || d.Len() != len(data) {
			t.Errorf("P1.5: pieces of %d: %08X, then %08X, %d", size, first, second, d.Len())
		}
	}
}

func TestDigestsAreApart(t *testing.T) {
	a, b := crc.New(), crc.New()
	if a.Sum() != 0 || a.Len() != 0 {
		t.Errorf("P1.5: a new Digest tells %08X, %d", a.Sum(), a.Len())
	}
	a.Write([]byte("am"))
	b.Write([]byte("other"))
	a.Write([]byte("ber"))
	if a.Sum() != 0x46EE1682 || a.Len() != 5 {
		t.Errorf("P1.5: the first of two: %08X, %d", a.Sum(), a.Len())
	}
	a.Reset()
	if a.Sum() != 0 || a.Len() != 0 {
		t.Errorf("P1.5: behind Reset: %08X, %d", a.Sum(), a.Len())
	}
	if b.Sum() != crc.Sum([]byte("other")) || b.Len() != 5 {
		t.Errorf("P1.5: the other of two: %08X, %d", b.Sum(), b.Len())
	}
	a.Write([]byte{0})
	if a.Sum() != 0xD202EF8D || a.Len() != 1 {
		t.Errorf("P1.5: written to behind Reset: %08X, %d", a.Sum(), a.Len())
	}
}

func TestArgumentsStay(t *testing.T) {
	room := someBytes(5, 64)
	want := bytes.Clone(room)
	data := room[:40]
	d := crc.New()
	d.Write(data)
	crc.Sum(data)
	crc.Update(9, data)
	crc.Forge(data, 36, 7)
	crc.Forge(data, 37, 7)
	crc.Burst(data, 3, 0xFFFFFFFF)
	crc.Burst(data, 319, 3)
	if !bytes.Equal(room, want) {
		t.Errorf("P1.6: a call changed its argument: % x", room)
	}
	before := d.Sum()
	clear(room)
	if d.Sum() != before {
		t.Error("P1.6: a Digest keeps the bytes that were written to it")
	}
}

func TestAnswersAreNewMemory(t *testing.T) {
	calls := map[string]func(data []byte) ([]byte, api.Errno){
		"Forge":      func(data []byte) ([]byte, api.Errno) { return crc.Forge(data, 2, 99) },
		"Forge same": func(data []byte) ([]byte, api.Errno) { return crc.Forge(data, 2, crc.Sum(data)) },
		"Burst":      func(data []byte) ([]byte, api.Errno) { return crc.Burst(data, 9, 0x10001) },
		"Burst by 0": func(data []byte) ([]byte, api.Errno) { return crc.Burst(data, 0, 0) },
		"at the end": func(data []byte) ([]byte, api.Errno) { return crc.Burst(data, 8*len(data), 0) },
	}
	for name, call := range calls {
		room := someBytes(6, 30)
		want := bytes.Clone(room)
		out, e := call(room[:20])
		if e != api.OK || len(out) != 20 {
			t.Fatalf("P1.6: %s: %d bytes, %d", name, len(out), e)
		}
		kept := bytes.Clone(out)
		clear(out[:cap(out)])
		if !bytes.Equal(room, want) {
			t.Errorf("P1.6: %s: the answer shares memory with the argument", name)
		}
		copy(out, kept)
		clear(room)
		if !bytes.Equal(out, kept) {
			t.Errorf("P1.6: %s: the answer changes with the argument", name)
		}
	}
}
