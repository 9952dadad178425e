package isa

import (
	"strconv"
	"strings"

	"amber/api"
)

// The fields of an instruction.
const (
	fieldA = iota
	fieldB
	fieldImm
)

// fields are those that an operation has in its text, in their order.
func (o operation) fields() []int {
	var l []int
	if o.a {
		l = append(l, fieldA)
	}
	if o.b {
		l = append(l, fieldB)
	}
	if o.imm != unused {
		l = append(l, fieldImm)
	}
	return l
}

// Disassemble turns words into text that Assemble takes.
func Disassemble(words []uint32) string {
	var text strings.Builder
	for _, w := range words {
		text.WriteString(tell(w))
		text.WriteByte('\n')
	}
	return text.String()
}

// tell is the line of a word.
func tell(w uint32) string {
	i, code := Decode(w)
	if code != api.OK {
		digits := strconv.FormatUint(uint64(w), 16)
		return ".word 0x" + strings.Repeat("0", 8-len(digits)) + digits
	}
	o := operations[i.Op]
	text := o.name
	between := " "
	for _, field := range o.fields() {
		text += between + tellField(i, field)
		between = ", "
	}
	return text
}

func tellField(i api.Instr, field int) string {
	switch field {
	case fieldA:
		return "r" + strconv.Itoa(i.A)
	case fieldB:
		return "r" + strconv.Itoa(i.B)
	}
	return strconv.Itoa(i.Imm)
}
