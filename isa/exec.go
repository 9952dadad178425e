package isa

import "amber/api"

// Exec does one instruction as far as registers go, and tells what it asks of the machine.
func Exec(r api.Regs, w uint32) (api.Regs, api.Effect) {
	i, code := Decode(w)
	if code != api.OK {
		return r, trap(code)
	}
	x, y, imm := r.R[i.A], r.R[i.B], uint32(i.Imm)
	switch i.Op {
	case opLd:
		return r, api.Effect{Kind: api.EffLoad, Addr: y + imm, Reg: i.A}
	case opSt:
		return r, api.Effect{Kind: api.EffStore, Addr: y + imm, Value: x}
	case opDiv, opRem:
		if y == 0 {
			return r, trap(api.ErrDiv)
		}
	case opSys:
		r.PC++
		return r, api.Effect{Kind: api.EffSys, Value: imm}
	}
	next := r.PC + 1
	r.PC = target(i.Op, x, imm, next)
	if i.Op == opCall {
		r.R[i.A] = next
	} else {
		r.R[i.A] = result(i.Op, x, y, imm)
	}
	return r, api.Effect{}
}

// Finish ends a load with the word that was read, or a store.
func Finish(r api.Regs, e api.Effect, word uint32) api.Regs {
	switch e.Kind {
	case api.EffLoad:
		if e.Reg < 0 || e.Reg >= api.NumRegs {
			return r
		}
		r.R[e.Reg] = word
	case api.EffStore:
	default:
		return r
	}
	r.PC++
	return r
}

func trap(code api.Errno) api.Effect {
	return api.Effect{Kind: api.EffTrap, Code: code}
}

// target is the PC behind an instruction, with x in its register a.
func target(op int, x, imm, next uint32) uint32 {
	switch {
	case op == opJr:
		return x
	case op == opJmp, op == opCall, op == opJz && x == 0, op == opJnz && x != 0:
		return next + imm
	}
	return next
}

// result is what register a becomes, with x in it and y in register b; y is not 0 where it divides. An operation that changes no register leaves x.
func result(op int, x, y, imm uint32) uint32 {
	switch op {
	case opLi:
		return imm
	case opHi:
		return imm<<16 | x&0xFFFF
	case opMov:
		return y
	case opAdd:
		return x + y
	case opSub:
		return x - y
	case opMul:
		return x * y
	case opDiv:
		return x / y
	case opRem:
		return x % y
	case opAnd:
		return x & y
	case opOr:
		return x | y
	case opXor:
		return x ^ y
	case opShl:
		return x << y
	case opShr:
		return x >> y
	case opLt:
		return truth(x < y)
	case opSlt:
		return truth(int32(x) < int32(y))
	case opEq:
		return truth(x == y)
	case opAddi:
		return x + imm
	}
	return x
}

func truth(holds bool) uint32 {
	if holds {
		return 1
	}
	return 0
}
