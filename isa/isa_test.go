package isa_test

import (
	"math"
	"strings"
	"testing"

	"amber/api"
	"amber/isa"
)

// row: an operation as the chapter's table has it: its name, and what it uses: a, b, i (signed imm), u (plain imm).
type row struct {
	name, uses string
}

// chapter is the chapter's table, written out again: by number, from 1 on.
var chapter = []row{
	{}, {"nop", ""}, {"li", "ai"}, {"hi", "au"}, {"mov", "ab"}, {"add", "ab"}, {"sub", "ab"}, {"mul", "ab"}, {"div", "ab"}, {"rem", "ab"},
	{"and", "ab"}, {"or", "ab"}, {"xor", "ab"}, {"shl", "ab"}, {"shr", "ab"}, {"lt", "ab"}, {"slt", "ab"}, {"eq", "ab"}, {"addi", "ai"},
	{"ld", "abi"}, {"st", "abi"}, {"jmp", "i"}, {"jz", "ai"}, {"jnz", "ai"}, {"jr", "a"}, {"call", "ai"}, {"sys", "u"},
}

func (r row) has(use string) bool { return strings.Contains(r.uses, use) }

// registers are the numbers that a (b) may have.
func (r row) registers(use string) int {
	if r.has(use) {
		return 8
	}
	return 1
}

// imms are the least and the greatest imm.
func (r row) imms() (int, int) {
	switch {
	case r.has("i"):
		return -32768, 32767
	case r.has("u"):
		return 0, 65535
	}
	return 0, 0
}

// wordOf is an instruction's word, by sums and products alone.
func wordOf(i api.Instr) uint32 {
	return uint32(i.Op*16777216 + i.A*1048576 + i.B*65536 + (i.Imm+65536)%65536)
}

// instructions calls f with every instruction that the table names.
func instructions(f func(i api.Instr)) {
	for op, r := range chapter[1:] {
		low, high := r.imms()
		for a := range r.registers("a") {
			for b := range r.registers("b") {
				for imm := low; imm <= high; imm++ {
					f(api.Instr{Op: op + 1, A: a, B: b, Imm: imm})
				}
			}
		}
	}
}

func TestEveryInstructionThereAndBack(t *testing.T) {
	bad := 0
	instructions(func(i api.Instr) {
		w, code := isa.Encode(i)
		if w != wordOf(i) || code != api.OK {
			if bad++; bad < 20 {
				t.Errorf("P7.1: Encode(%v) = %08X, %d, want %08X, OK", i, w, code, wordOf(i))
			}
			return
		}
		if j, code := isa.Decode(w); j != i || code != api.OK {
			if bad++; bad < 20 {
				t.Errorf("P7.2: Decode(Encode(%v)) = %v, %d", i, j, code)
			}
		}
	})
}

// named tells whether the table names a word, by the word's digits in base sixteen.
func named(w uint32) bool {
	op, a, b, imm := int(w>>24), w>>20&15, w>>16&15, w&0xFFFF
	if op < 1 || op > 26 {
		return false
	}
	r := chapter[op]
	return a < uint32(r.registers("a")) && b < uint32(r.registers("b")) && (imm == 0 || r.has("i") || r.has("u"))
}

func TestDecodeTakesJustTheTable(t *testing.T) {
	bad := 0
	for upper := range uint32(1 << 16) {
		for _, imm := range []uint32{0, 1, 2, 7, 8, 255, 256, 4096, 32767, 32768, 32769, 65534, 65535, upper % 65521} {
			w := upper<<16 | imm
			i, code := isa.Decode(w)
			if named(w) != (code == api.OK) || code != api.OK && (code != api.ErrOp || i != api.Instr{}) {
				if bad++; bad < 20 {
					t.Errorf("P7.2: Decode(%08X) = %v, %d", w, i, code)
				}
				continue
			}
			if code != api.OK {
				continue
			}
			if back, code := isa.Encode(i); back != w || code != api.OK {
				if bad++; bad < 20 {
					t.Errorf("P7.2: Encode(Decode(%08X)) = %08X, %d", w, back, code)
				}
			}
		}
	}
}

// An operation that doesn't use imm takes no other than 0, at all of its 16 bits.
func TestDecodeHoldsImmToTheTable(t *testing.T) {
	for op := range uint32(28) {
		for imm := range uint32(1 << 16) {
			w := op<<24 | imm
			if _, code := isa.Decode(w); named(w) != (code == api.OK) {
				t.Fatalf("P7.2: Decode(%08X) = .., %d", w, code)
			}
		}
	}
}

// far are numbers that are no operation, no register and no imm.
var far = []int{math.MinInt, math.MinInt + 1, -1 << 33, -1 << 32, -1<<32 + 1, -1 << 31, -65536, -32769, 65536, 1 << 24, 1 << 31, 1 << 32, 1<<32 + 1, 1<<32 + 5, 1 << 56, math.MaxInt}

func TestEncodeRefuses(t *testing.T) {
	refused := func(i api.Instr) {
		t.Helper()
		if w, code := isa.Encode(i); w != 0 || code != api.ErrOp {
			t.Errorf("P7.1: Encode(%v) = %08X, %d, want 0, ErrOp", i, w, code)
		}
	}
	for _, op := range append([]int{-1, 0, 27, 28, 255, 256, 257, -255, -254}, far...) {
		refused(api.Instr{Op: op})
	}
	for op, r := range chapter {
		if op == 0 {
			continue
		}
		for _, n := range append([]int{-8, -1, r.registers("a"), 8, 15, 16, 17}, far...) {
			refused(api.Instr{Op: op, A: n})
		}
		for _, n := range append([]int{-8, -1, r.registers("b"), 8, 15, 16, 17}, far...) {
			refused(api.Instr{Op: op, B: n})
		}
		low, high := r.imms()
		for _, n := range append([]int{low - 1, high + 1, low - 65536, high + 65536}, far...) {
			refused(api.Instr{Op: op, Imm: n})
		}
	}
}

// The chapter's examples 1 and 2.
func TestCodesOfTheExamples(t *testing.T) {
	for w, want := range map[uint32]api.Instr{
		0x02300005: {Op: 2, A: 3, Imm: 5}, 0x0230FFFF: {Op: 2, A: 3, Imm: -1}, 0x01000000: {Op: 1}, 0x1312FFFC: {Op: 19, A: 1, B: 2, Imm: -4}, 0x0310FFFF: {Op: 3, A: 1, Imm: 65535},
	} {
		if i, code := isa.Decode(w); i != want || code != api.OK {
			t.Errorf("P7.1: Decode(%08X) = %v, %d, want %v", w, i, code, want)
		}
		if got, code := isa.Encode(want); got != w || code != api.OK {
			t.Errorf("P7.1: Encode(%v) = %08X, %d, want %08X", want, got, code, w)
		}
	}
	for _, w := range []uint32{0x02380005, 0x02800005, 0x1B000000, 0, 0x01000001} {
		if i, code := isa.Decode(w); i != (api.Instr{}) || code != api.ErrOp {
			t.Errorf("P7.1: Decode(%08X) = %v, %d, want ErrOp", w, i, code)
		}
	}
}
