package tongue

import (
	"strconv"
	"strings"
)

// former writes a program in its plain form.
type former struct {
	text   strings.Builder
	blocks int // around what is written
}

// plain is the one form of a program.
func plain(p program) string {
	var f former
	for _, v := range p.variables {
		f.declaration(v)
	}
	f.statements(p.statements)
	return f.text.String()
}

func (f *former) put(texts ...string) {
	for _, t := range texts {
		f.text.WriteString(t)
	}
}

func (f *former) declaration(v variable) {
	f.put("var ", v.name)
	if v.array {
		f.put("[", strconv.Itoa(v.size), "]")
	}
	f.put(";\n")
}

// margin stands ahead of every line.
func (f *former) margin() { f.put(strings.Repeat("\t", f.blocks)) }

func (f *former) statements(list []statement) {
	for _, s := range list {
		f.margin()
		f.statement(s)
		f.put("\n")
	}
}

func (f *former) statement(s statement) {
	switch s.word {
	case assigning:
		f.target(s)
		f.put(" = ")
		f.expr(s.value)
		f.put(";")
	case "if":
		f.choice(s)
	case "while":
		f.put("while ")
		f.expr(s.value)
		f.put(" ")
		f.block(s.body)
	case "emit", "stop":
		f.put(s.word, " ")
		f.expr(s.value)
		f.put(";")
	case "yield", "break", "continue":
		f.put(s.word, ";")
	case "{":
		f.block(s.body)
	}
}

// target is what an assignment assigns to.
func (f *former) target(s statement) {
	f.put(s.variable.name)
	if s.index != nil {
		f.put("[")
		f.expr(s.index)
		f.put("]")
	}
}

func (f *former) choice(s statement) {
	f.put("if ")
	f.expr(s.value)
	f.put(" ")
	f.block(s.body)
	switch s.otherwise {
	case elseBlock:
		f.put(" else ")
		f.block(s.rest)
	case elseChoice:
		f.put(" else ")
		f.choice(s.rest[0])
	}
}

func (f *former) block(list []statement) {
	f.put("{\n")
	f.blocks++
	f.statements(list)
	f.blocks--
	f.margin()
	f.put("}")
}

func (f *former) expr(e *expr) {
	switch e.kind {
	case numberExpr:
		f.put(strconv.FormatUint(uint64(e.value), 10))
	case askExpr:
		f.put("ask")
	case nameExpr:
		f.put(e.variable.name)
	case elementExpr:
		f.put(e.variable.name, "[")
		f.expr(e.left)
		f.put("]")
	case signExpr:
		f.put(e.operator)
		f.side(e.left, e.left.kind == operatorExpr)
	case operatorExpr:
		level := levelOf(e.operator)
		f.side(e.left, e.left.kind == operatorExpr && levelOf(e.left.operator) < level)
		f.put(" ", e.operator, " ")
		f.side(e.right, e.right.kind == operatorExpr && levelOf(e.right.operator) <= level)
	}
}

// side is an expression within another, in round brackets where it would else be read another way.
func (f *former) side(e *expr, round bool) {
	if !round {
		f.expr(e)
		return
	}
	f.put("(")
	f.expr(e)
	f.put(")")
}
