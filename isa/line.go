package isa

import (
	"strings"

	"amber/api"
)

const blanks = " \t"

// noOp: the operation of a line that gives plain words: imm is their value.
const noOp = 0

// line: what one line of a program's text says.
type line struct {
	wrong bool   // its form breaks a rule: then nothing but its label counts
	label string // that stands ahead of a ":"; "": none does
	instr api.Instr
	name  string // the label that stands in imm's place; "": a number does
	words int    // how often the word stands there
}

func readLine(text string) line {
	text, _, _ = cutAt(text, ";")
	text = strings.Trim(text, blanks)
	label, behind, found := cutAt(text, ":")
	if !found {
		return readStatement(text)
	}
	if !isLabel(label) {
		return line{wrong: true}
	}
	l := readStatement(strings.Trim(behind, blanks))
	l.label = label
	return l
}

// readStatement reads what a line has beside its label and its comment.
func readStatement(text string) line {
	if text == "" {
		return line{}
	}
	name, rest, _ := cutAt(text, blanks)
	var l line
	if !l.readFields(name, splitFields(rest)) {
		return line{wrong: true}
	}
	return l
}

func splitFields(text string) []string {
	text = strings.Trim(text, blanks)
	if text == "" {
		return nil
	}
	fields := cutAll(text, ',')
	for k, field := range fields {
		fields[k] = strings.Trim(field, blanks)
	}
	return fields
}

// readFields tells whether the name and its fields are a statement.
func (l *line) readFields(name string, fields []string) bool {
	l.words = 1
	switch name {
	case ".word":
		return len(fields) == 1 && l.readImm(fields[0], -1<<31, api.MaxWord)
	case ".zero":
		return len(fields) == 1 && l.readCount(fields[0])
	}
	l.instr.Op = opNamed(name)
	return l.instr.Op != noOp && l.readInstr(fields)
}

// readCount reads how many words 0 there are.
func (l *line) readCount(field string) bool {
	n, ok := number(field)
	l.words = n
	return ok && n >= 0 && n <= api.MaxCode
}

// readInstr reads the fields of the line's operation.
func (l *line) readInstr(texts []string) bool {
	o := operations[l.instr.Op]
	kinds := o.fields()
	if len(texts) != len(kinds) {
		return false
	}
	low, high := bounds(o.imm)
	read := 0
fields:
	for k, text := range texts {
		n, isRegister := register(text)
		switch {
		case kinds[k] == fieldImm && l.readImm(text, low, high):
		case kinds[k] == fieldA && isRegister:
			l.instr.A = n
		case kinds[k] == fieldB && isRegister:
			l.instr.B = n
		default:
			break fields
		}
		read++
	}
	return read == len(kinds)
}

// readImm reads a label, or a number within these bounds.
func (l *line) readImm(field string, low, high int) bool {
	if isLabel(field) {
		l.name = field
		return true
	}
	n, ok := number(field)
	l.instr.Imm = n
	return ok && low <= n && n <= high
}

func opNamed(name string) int {
	for n, o := range operations {
		if n != noOp && o.name == name {
			return n
		}
	}
	return noOp
}

func register(field string) (int, bool) {
	if len(field) != 2 || field[0] != 'r' || field[1] < '0' || field[1] >= '0'+api.NumRegs {
		return 0, false
	}
	return int(field[1] - '0'), true
}
