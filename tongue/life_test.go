package tongue_test

import "amber/api"

// The meaning of a grown source, gone through tree by tree, with what its variables are at each call.

type ended struct{}

type life struct {
	api.Meaning
	vars    map[*decl][]uint32
	decls   []*decl
	answers []uint32
	fuel    int
	seen    [][]uint32 // all variables, one after the other, at each call
}

// lived: the whole life of a source.
func (s source) lived(answers []uint32, fuel int) (b *life) {
	b = &life{vars: map[*decl][]uint32{}, decls: s.decls, answers: answers, fuel: fuel}
	for _, v := range s.decls {
		b.vars[v] = make([]uint32, v.words())
	}
	defer func() {
		if r := recover(); r != nil {
			if _, ok := r.(ended); !ok {
				panic(r)
			}
		}
	}()
	b.acts(s.acts)
	b.stop(0)
	return b
}

func (b *life) end(state, code int) {
	b.State, b.Code = state, code
	panic(ended{})
}

func (b *life) call(number int, word uint32) {
	var all []uint32
	for _, v := range b.decls {
		all = append(all, b.vars[v]...)
	}
	b.seen = append(b.seen, all)
	b.Outs = append(b.Outs, api.Out{Call: number, Value: word})
}

func (b *life) stop(code uint32) {
	b.call(1, code)
	b.end(3, int(code))
}

func (b *life) spend() {
	if b.Used == b.fuel {
		b.end(1, 0)
	}
	b.Used++
}

// acts: whether all were done; else the word by which they were left.
func (b *life) acts(l []*act) string {
	for _, a := range l {
		if word := b.act(a); word != "" {
			return word
		}
	}
	return ""
}

func (b *life) act(a *act) string {
	if a.word != "{" {
		b.spend()
	}
	switch a.word {
	case "{":
		return b.acts(a.body)
	case "=":
		place := 0
		if a.index != nil {
			place = b.index(a.v, a.index)
		}
		b.vars[a.v][place] = b.term(a.value)
	case "if":
		if b.term(a.value) != 0 {
			return b.acts(a.body)
		}
		return b.acts(a.rest)
	case "while":
		for {
			if b.spend(); b.term(a.value) == 0 || b.acts(a.body) == "break" {
				return ""
			}
		}
	case "emit":
		b.call(14, b.term(a.value))
	case "stop":
		b.stop(b.term(a.value))
	case "yield":
		b.call(0, 0)
	case "break", "continue":
		return a.word
	}
	return ""
}

func (b *life) index(v *decl, t *term) int {
	n := b.term(t)
	if uint64(n) >= uint64(v.size) {
		b.stop(4294967295)
	}
	return int(n)
}

func (b *life) ask() uint32 {
	b.spend()
	var w uint32
	if b.Taken < len(b.answers) {
		w = b.answers[b.Taken]
		b.Taken++
	}
	b.call(24, w)
	return w
}

func (b *life) term(t *term) uint32 {
	switch t.kind {
	case "number":
		return t.n
	case "ask":
		return b.ask()
	case "name":
		return b.vars[t.v][0]
	case "element":
		return b.vars[t.v][b.index(t.v, t.l)]
	case "round":
		return b.term(t.l)
	case "sign":
		v := uint64(b.term(t.l))
		return uint32(map[string]uint64{"-": 1<<32 - v, "~": 1<<32 - 1 - v, "!": as(v == 0)}[t.op])
	}
	l := uint64(b.term(t.l))
	switch {
	case t.op == "&&" && l == 0:
		return 0
	case t.op == "||" && l != 0:
		return 1
	}
	r := uint64(b.term(t.r))
	if r == 0 && (t.op == "/" || t.op == "%") {
		b.end(4, 73)
	}
	return uint32(result(t.op, l, r))
}

func as(so bool) uint64 {
	if so {
		return 1
	}
	return 0
}

// result: in 64 bits, of which the lower 32 count.
func result(op string, l, r uint64) uint64 {
	switch op {
	case "+":
		return l + r
	case "-":
		return l + 1<<32 - r
	case "*":
		return l * r
	case "/":
		return l / r
	case "%":
		return l - l/r*r
	case "&":
		return l & r
	case "|":
		return l + r - l&r
	case "^":
		return l + r - 2*(l&r)
	case "<<":
		return l << min(r, 32)
	case ">>":
		return l >> min(r, 32)
	case "==":
		return as(l == r)
	case "!=":
		return as(l != r)
	case "<":
		return as(l < r)
	case "<=":
		return as(l <= r)
	case ">":
		return as(l > r)
	case ">=":
		return as(l >= r)
	}
	return as(r != 0) // && and ||, where the left side has not said it
}
