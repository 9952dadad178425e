package isa_test

import (
	"math/big"
	"testing"

	"amber/api"
	"amber/isa"
)

const top = 1<<32 - 1

// edges are words at which an operation could go wrong.
var edges = []uint32{0, 1, 2, 7, 31, 32, 33, 255, 32767, 32768, 65535, 65536, 0x10001, 1<<31 - 1, 1 << 31, 1<<31 + 1, 0xABCD5678, top - 1, top}

// modulo takes a number modulo 1<<32.
func modulo(n *big.Int) uint32 {
	return uint32(new(big.Int).Mod(n, big.NewInt(1<<32)).Uint64())
}

// twos is a word as a two's complement.
func twos(w uint32) int {
	if w >= 1<<31 {
		return int(w) - 1<<32
	}
	return int(w)
}

func bit(holds bool) uint32 {
	if holds {
		return 1
	}
	return 0
}

// bitwise makes a word of each pair of bits.
func bitwise(x, y uint32, how func(p, q bool) bool) uint32 {
	out := uint32(0)
	for k := range 32 {
		out += bit(how(x>>k&1 == 1, y>>k&1 == 1)) << k
	}
	return out
}

// becomes is what the table makes of register a (x) with b (y), and whether the operation is one that makes something.
func becomes(name string, x, y uint32, imm int) (uint32, bool) {
	p, q, n := big.NewInt(int64(x)), big.NewInt(int64(y)), big.NewInt(int64(imm))
	z := new(big.Int)
	switch name {
	case "li":
		return modulo(n), true
	case "hi":
		return uint32(imm)*65536 + x%65536, true
	case "mov":
		return y, true
	case "add":
		return modulo(z.Add(p, q)), true
	case "sub":
		return modulo(z.Sub(p, q)), true
	case "mul":
		return modulo(z.Mul(p, q)), true
	case "div":
		return modulo(z.Div(p, q)), true
	case "rem":
		return modulo(z.Mod(p, q)), true
	case "and":
		return bitwise(x, y, func(p, q bool) bool { return p && q }), true
	case "or":
		return bitwise(x, y, func(p, q bool) bool { return p || q }), true
	case "xor":
		return bitwise(x, y, func(p, q bool) bool { return p != q }), true
	case "shl":
		return modulo(z.Lsh(p, uint(min(y, 32)))), true
	case "shr":
		return modulo(z.Rsh(p, uint(min(y, 32)))), true
	case "lt":
		return bit(p.Cmp(q) < 0), true
	case "slt":
		return bit(twos(x) < twos(y)), true
	case "eq":
		return bit(p.Cmp(q) == 0), true
	case "addi":
		return modulo(z.Add(p, n)), true
	}
	return 0, false
}

// stepped is the chapter's step, told once more.
func stepped(r api.Regs, i api.Instr) (api.Regs, api.Effect) {
	x, y := r.R[i.A], r.R[i.B]
	addr := modulo(big.NewInt(int64(y) + int64(i.Imm)))
	next := modulo(big.NewInt(int64(r.PC) + 1))
	far := modulo(big.NewInt(int64(r.PC) + 1 + int64(i.Imm)))
	name := chapter[i.Op].name
	switch {
	case name == "ld":
		return r, api.Effect{Kind: 1, Addr: addr, Reg: i.A}
	case name == "st":
		return r, api.Effect{Kind: 2, Addr: addr, Value: x}
	case (name == "div" || name == "rem") && y == 0:
		return r, api.Effect{Kind: 4, Code: 73}
	case name == "sys":
		r.PC = next
		return r, api.Effect{Kind: 3, Value: uint32(i.Imm)}
	case name == "jr":
		r.PC = x
		return r, api.Effect{}
	case name == "jmp", name == "jz" && x == 0, name == "jnz" && x != 0:
		r.PC = far
		return r, api.Effect{}
	case name == "call":
		r.R[i.A], r.PC = next, far
		return r, api.Effect{}
	}
	if z, some := becomes(name, x, y, i.Imm); some {
		r.R[i.A] = z
	}
	r.PC = next
	return r, api.Effect{}
}

func someImms(r row) []int {
	switch {
	case r.has("i"):
		return []int{-32768, -32767, -300, -2, -1, 0, 1, 2, 300, 32766, 32767}
	case r.has("u"):
		return []int{0, 1, 2, 300, 32767, 32768, 65534, 65535}
	}
	return []int{0}
}

// held tells whether Exec does what the chapter says.
func held(t *testing.T, r api.Regs, i api.Instr) {
	t.Helper()
	want, effect := stepped(r, i)
	if got, e := isa.Exec(r, wordOf(i)); got != want || e != effect {
		t.Fatalf("P7.1: Exec(%v, %v) = %v, %v, want %v, %v", r, i, got, e, want, effect)
	}
}

func TestExecAtEdges(t *testing.T) {
	for op, r := range chapter {
		if op == 0 {
			continue
		}
		for _, x := range edges {
			for _, y := range edges {
				for _, imm := range someImms(r) {
					for _, pc := range []uint32{0, 10, 1 << 31, top} {
						i := api.Instr{Op: op, Imm: imm}
						if r.has("a") {
							i.A = 1
						}
						if r.has("b") {
							i.B = 2
						}
						held(t, api.Regs{R: [8]uint32{40, x, y, 43, 44, 45, 46, 47}, PC: pc}, i)
					}
				}
			}
		}
	}
}

// Every pair of registers, one register in both places among them.
func TestExecAtEveryRegister(t *testing.T) {
	for op, r := range chapter {
		if op == 0 {
			continue
		}
		for a := range r.registers("a") {
			for b := range r.registers("b") {
				for _, imm := range someImms(r) {
					i := api.Instr{Op: op, A: a, B: b, Imm: imm}
					held(t, api.Regs{R: [8]uint32{0, 0x80000001, top, 3, 4, 1 << 31, 66000, 31}, PC: 77}, i)
					held(t, api.Regs{PC: top}, i)
				}
			}
		}
	}
}

func TestExecOfNoInstruction(t *testing.T) {
	in := api.Regs{R: [8]uint32{1, 2, 3, 4, 5, 6, 7, 8}, PC: top}
	for upper := range uint32(1 << 16) {
		for _, imm := range []uint32{0, 1, 65535} {
			w := upper<<16 | imm
			if named(w) {
				continue
			}
			if r, e := isa.Exec(in, w); r != in || e != (api.Effect{Kind: api.EffTrap, Code: api.ErrOp}) {
				t.Fatalf("P7.1: Exec(.., %08X) = %v, %v, want a trap with ErrOp", w, r, e)
			}
		}
	}
}

// P7.3, of all that a step answers: what it may not touch is as it was.
func TestAStepChangesAtMostPCAndA(t *testing.T) {
	d := dice(3)
	for range 200000 {
		var in api.Regs
		for k := range in.R {
			in.R[k] = d.word()
		}
		in.PC = d.word()
		w := uint32(d.below(30))<<24 | d.word()&0x77FFFF
		r, e := isa.Exec(in, w)
		if e.Kind != api.EffNext && e.Kind != api.EffSys && r != in {
			t.Fatalf("P7.3: Exec(%v, %08X) = %v, %v: it changed something", in, w, r, e)
		}
		a := w >> 20 & 7
		r.R[a], r.PC = in.R[a], in.PC
		if r != in {
			t.Fatalf("P7.3: Exec(%v, %08X) changed more than PC and r%d", in, w, a)
		}
	}
}

func TestFinishOfEveryKind(t *testing.T) {
	in := api.Regs{R: [8]uint32{1, 2, 3, 4, 5, 6, 7, 8}, PC: 10}
	for kind := -2; kind < 9; kind++ {
		for _, reg := range append([]int{-8, -1, 0, 1, 2, 3, 4, 5, 6, 7, 8, 9}, far...) {
			want := in
			if kind == 1 && reg >= 0 && reg < 8 {
				want.R[reg], want.PC = 99, 11
			}
			if kind == 2 {
				want.PC = 11
			}
			e := api.Effect{Kind: kind, Addr: 5, Reg: reg, Value: 6, Code: 7}
			if r := isa.Finish(in, e, 99); r != want {
				t.Errorf("P7.1: Finish(%v, %v, 99) = %v, want %v", in, e, r, want)
			}
		}
	}
	for _, kind := range append([]int{257, 258}, far...) {
		if r := isa.Finish(in, api.Effect{Kind: kind, Reg: 1}, 99); r != in {
			t.Errorf("P7.1: Finish of the kind %d = %v, want %v", kind, r, in)
		}
	}
	in.PC = top
	if r := isa.Finish(in, api.Effect{Kind: api.EffStore}, 99); r.PC != 0 || r.R != in.R {
		t.Errorf("P7.1: Finish at the last PC = %v, want PC 0", r)
	}
	if r := isa.Finish(in, api.Effect{Kind: api.EffLoad, Reg: 7}, 0); r.PC != 0 || r.R != [8]uint32{1, 2, 3, 4, 5, 6, 7, 0} {
		t.Errorf("P7.1: Finish at the last PC = %v, want PC 0 and r7 0", r)
	}
}

// The chapter's examples 3 and 4.
func TestExecOfTheExamples(t *testing.T) {
	in := api.Regs{R: [8]uint32{0, 7, 2}, PC: 10}
	load := api.Effect{Kind: api.EffLoad, Addr: top, Reg: 1}
	if r, e := isa.Exec(in, 0x1312FFFD); r != in || e != load {
		t.Errorf("P7.1: ld r1, r2, -3: %v, %v", r, e)
	}
	if r := isa.Finish(in, load, 9); r != (api.Regs{R: [8]uint32{0, 9, 2}, PC: 11}) {
		t.Errorf("P7.1: Finish of ld r1, r2, -3: %v", r)
	}
	for _, c := range []struct {
		w      uint32
		x, y   uint32
		pc     uint32
		r1, to uint32
		e      api.Effect
	}{
		{0x08120000, 7, 2, 10, 3, 11, api.Effect{}},
		{0x08120000, 7, 0, 10, 7, 10, api.Effect{Kind: api.EffTrap, Code: api.ErrDiv}},
		{0x14120001, 7, 2, 10, 7, 10, api.Effect{Kind: api.EffStore, Addr: 3, Value: 7}},
		{0x1A00012C, 7, 2, 10, 7, 11, api.Effect{Kind: api.EffSys, Value: 300}},
		{0x01000000, 7, 2, top, 7, 0, api.Effect{}},
		{0x1500FFFF, 7, 2, 10, 7, 10, api.Effect{}},
		{0x19100004, 7, 2, 10, 11, 15, api.Effect{}},
		{0x18100000, 3, 2, 10, 3, 3, api.Effect{}},
		{0x10120000, top, 0, 10, 1, 11, api.Effect{}},
		{0x0F120000, top, 0, 10, 0, 11, api.Effect{}},
		{0x06110000, 9, 2, 10, 0, 11, api.Effect{}},
		{0, 7, 2, 10, 7, 10, api.Effect{Kind: api.EffTrap, Code: api.ErrOp}},
	} {
		in := api.Regs{R: [8]uint32{0, c.x, c.y}, PC: c.pc}
		want := api.Regs{R: [8]uint32{0, c.r1, c.y}, PC: c.to}
		if r, e := isa.Exec(in, c.w); r != want || e != c.e {
			t.Errorf("P7.1: Exec(%v, %08X) = %v, %v, want %v, %v", in, c.w, r, e, want, c.e)
		}
	}
}
