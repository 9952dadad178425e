package tongue_test

import (
	"slices"
	"strconv"
	"strings"
)

// What a grown source is compiled to, by the tables of chapter 23: pieces of code are put together whole, and a jump's distance is how many instructions stand between.

// Jumps whose distance is known only when more stands around them.
const (
	toTrap     = "jz r6, TRAP"
	toBreak    = "jmp B"
	toContinue = "jmp A"
)

func lines(text string) []string { return strings.Split(text, "; ") }

func jump(name string, distance int) string { return name + strconv.Itoa(distance) }

func (s source) code() []string {
	l := slices.Concat(lines("li r7, 0"), codeOf(s.acts), lines("li r1, 0; sys 1; li r1, -1; sys 1"))
	for i, x := range l {
		if x == toTrap {
			l[i] = jump("jz r6, ", len(l)-2-i-1)
		}
	}
	return l
}

func codeOf(acts []*act) []string {
	var l []string
	for _, a := range acts {
		l = append(l, a.code()...)
	}
	return l
}

func (v *decl) place() string { return strconv.Itoa(v.at) }

// guard: the look at an index.
func (v *decl) guard() []string {
	return []string{"li r5, " + strconv.Itoa(v.size), "mov r6, r4", "lt r6, r5", toTrap}
}

func (a *act) code() []string {
	switch a.word {
	case "=":
		if a.index == nil {
			return append(a.value.code(0), "st r4, r7, "+a.v.place())
		}
		return slices.Concat(a.index.code(0), a.v.guard(), lines("st r4, r7, 480"), a.value.code(1), lines("ld r5, r7, 480"), lines("st r4, r5, "+a.v.place()))
	case "if":
		e, body, rest := a.value.code(0), codeOf(a.body), codeOf(a.rest)
		if a.other == "" {
			return slices.Concat(e, lines(jump("jz r4, ", len(body))), body)
		}
		return slices.Concat(e, lines(jump("jz r4, ", len(body)+1)), body, lines(jump("jmp ", len(rest))), rest)
	case "while":
		return a.loopCode()
	case "emit":
		return append(a.value.code(0), "mov r1, r4", "sys 14")
	case "stop":
		return append(a.value.code(0), "mov r1, r4", "sys 1")
	case "{":
		return append([]string{"nop"}, codeOf(a.body)...)
	}
	return []string{map[string]string{"yield": "sys 0", "break": toBreak, "continue": toContinue}[a.word]}
}

func (a *act) loopCode() []string {
	e, body := a.value.code(0), codeOf(a.body)
	l := slices.Concat(e, lines(jump("jz r4, ", len(body)+1)), body, lines(toContinue))
	for i, x := range l {
		switch x {
		case toBreak:
			l[i] = jump("jmp ", len(l)-i-1)
		case toContinue:
			l[i] = jump("jmp ", -i-1)
		}
	}
	return l
}

func (t *term) code(d int) []string {
	switch t.kind {
	case "number":
		if t.n > 32767 {
			return []string{"li r4, " + strconv.Itoa(int(int16(t.n&65535))), "hi r4, " + strconv.Itoa(int(t.n/65536))}
		}
		return []string{"li r4, " + strconv.Itoa(int(t.n))}
	case "ask":
		return lines("sys 24; mov r4, r1")
	case "name":
		return []string{"ld r4, r7, " + t.v.place()}
	case "element":
		return slices.Concat(t.l.code(d), t.v.guard(), lines("ld r4, r4, "+t.v.place()))
	case "sign":
		return append(t.l.code(d), lines(map[string]string{"-": "mov r5, r7; sub r5, r4; mov r4, r5", "~": "li r5, -1; xor r4, r5", "!": "eq r4, r7"}[t.op])...)
	case "round":
		return t.l.code(d)
	}
	switch t.op {
	case "&&":
		l, r := t.l.code(d), t.r.code(d)
		return slices.Concat(l, lines(jump("jz r4, ", len(r)+3)), r, lines("jz r4, 2; li r4, 1; jmp 1; li r4, 0"))
	case "||":
		l, r := t.l.code(d), t.r.code(d)
		return slices.Concat(l, lines(jump("jnz r4, ", len(r)+3)), r, lines("jnz r4, 2; li r4, 0; jmp 1; li r4, 1"))
	}
	temp := strconv.Itoa(480 + d)
	ends := map[string]string{"+": "add r4, r5", "-": "sub r4, r5", "*": "mul r4, r5", "/": "div r4, r5", "%": "rem r4, r5", "&": "and r4, r5", "|": "or r4, r5", "^": "xor r4, r5", "<<": "shl r4, r5", ">>": "shr r4, r5", "==": "eq r4, r5", "<": "lt r4, r5", "!=": "eq r4, r5; eq r4, r7", ">=": "lt r4, r5; eq r4, r7", ">": "lt r5, r4; mov r4, r5", "<=": "lt r5, r4; mov r4, r5; eq r4, r7"}
	return slices.Concat(t.l.code(d), lines("st r4, r7, "+temp), t.r.code(d+1), lines("mov r5, r4; ld r4, r7, "+temp), lines(ends[t.op]))
}
