package tongue

import (
	"strconv"
	"strings"

	"amber/api"
)

const (
	tempAt = 480   // the address of the first temporary word
	mostLi = 32767 // the greatest number that li takes as it is
	trap   = "trap"
)

// coder writes a program's code as isa's text, in which labels stand for the places that are jumped to.
type coder struct {
	text   strings.Builder
	words  int
	labels int    // pairs that were given
	loop   string // the number of the innermost while's pair
}

// codeOf is the code of a program with these statements, and how many words it has.
func codeOf(list []statement) (string, int) {
	var c coder
	c.put("li r7, 0")
	c.statements(list)
	c.put("li r1, 0; " + sys(api.CallExit))
	c.label(trap)
	c.put("li r1, -1; " + sys(api.CallExit))
	return c.text.String(), c.words
}

// put writes instructions, parted as the operators' code is.
func (c *coder) put(instructions string) {
	for _, one := range strings.Split(instructions, "; ") {
		c.text.WriteString(one + "\n")
		c.words++
	}
}

func (c *coder) label(name string) { c.text.WriteString(name + ":\n") }

// pair is the number of two labels, a and b, that no other code has.
func (c *coder) pair() string {
	c.labels++
	return strconv.Itoa(c.labels)
}

func sys(call int) string { return "sys " + strconv.Itoa(call) }

// temp is the address of a temporary word.
func temp(d int) string { return strconv.Itoa(tempAt + d) }

// address is that of a variable's first word.
func (v variable) address() string { return strconv.Itoa(v.at) }

func (c *coder) statements(list []statement) {
	for _, s := range list {
		c.statement(s)
	}
}

func (c *coder) statement(s statement) {
	switch s.word {
	case assigning:
		c.assignment(s)
	case "if":
		c.choice(s)
	case "while":
		c.while(s)
	case "emit":
		c.expr(s.value, 0)
		c.put("mov r1, r4; " + sys(api.CallEmit))
	case "stop":
		c.expr(s.value, 0)
		c.put("mov r1, r4; " + sys(api.CallExit))
	case "yield":
		c.put(sys(api.CallYield))
	case "break":
		c.put("jmp b" + c.loop)
	case "continue":
		c.put("jmp a" + c.loop)
	case "{":
		c.put("nop")
		c.statements(s.body)
	}
}

// assignment of an element keeps the index in the first temporary word, so that the value has those behind it.
func (c *coder) assignment(s statement) {
	x := s.variable.address()
	if s.index == nil {
		c.expr(s.value, 0)
		c.put("st r4, r7, " + x)
		return
	}
	c.expr(s.index, 0)
	c.guard(s.variable)
	c.put("st r4, r7, " + temp(0))
	c.expr(s.value, 1)
	c.put("ld r5, r7, " + temp(0) + "; st r4, r5, " + x)
}

// guard stops the program where the index in register 4 is none of the array's.
func (c *coder) guard(array variable) {
	c.put("li r5, " + strconv.Itoa(array.size) + "; mov r6, r4; lt r6, r5; jz r6, " + trap)
}

func (c *coder) choice(s statement) {
	n := c.pair()
	c.expr(s.value, 0)
	c.put("jz r4, a" + n)
	c.statements(s.body)
	if s.otherwise != noElse {
		c.put("jmp b" + n)
	}
	c.label("a" + n)
	c.statements(s.rest)
	c.label("b" + n)
}

func (c *coder) while(s statement) {
	outer := c.loop
	n := c.pair()
	c.loop = n
	c.label("a" + n)
	c.expr(s.value, 0)
	c.put("jz r4, b" + n)
	c.statements(s.body)
	c.put("jmp a" + n)
	c.label("b" + n)
	c.loop = outer
}

// expr brings an expression's value into register 4; the temporary words below d are in use.
func (c *coder) expr(e *expr, d int) {
	switch e.kind {
	case numberExpr:
		c.number(e.value)
	case askExpr:
		c.put(sys(api.CallAsk) + "; mov r4, r1")
	case nameExpr:
		c.put("ld r4, r7, " + e.variable.address())
	case elementExpr:
		c.expr(e.left, d)
		c.guard(e.variable)
		c.put("ld r4, r4, " + e.variable.address())
	case signExpr:
		c.expr(e.left, d)
		c.put(signCode(e.operator))
	case operatorExpr:
		c.operation(e, d)
	}
}

func (c *coder) number(n uint32) {
	if n <= mostLi {
		c.put("li r4, " + strconv.Itoa(int(n)))
		return
	}
	c.put("li r4, " + strconv.Itoa(int(int16(n))) + "; hi r4, " + strconv.Itoa(int(n>>16)))
}

func (c *coder) operation(e *expr, d int) {
	switch e.operator {
	case andAlso:
		c.shortcut(e, d, "jz", 0)
	case orElse:
		c.shortcut(e, d, "jnz", 1)
	default:
		c.expr(e.left, d)
		c.put("st r4, r7, " + temp(d))
		c.expr(e.right, d+1)
		c.put("mov r5, r4; ld r4, r7, " + temp(d))
		c.put(operatorCode(e.operator))
	}
}

// shortcut: a side at which the jump is taken says alone what the whole is.
func (c *coder) shortcut(e *expr, d int, jump string, settled int) {
	n := c.pair()
	c.expr(e.left, d)
	c.put(jump + " r4, a" + n)
	c.expr(e.right, d)
	c.put(jump + " r4, a" + n)
	c.put("li r4, " + strconv.Itoa(1-settled) + "; jmp b" + n)
	c.label("a" + n)
	c.put("li r4, " + strconv.Itoa(settled))
	c.label("b" + n)
}
