package tongue

import "amber/api"

// statements reads all that come, up to a token that begins none.
func (r *reader) statements() []statement {
	var list []statement
reading:
	for {
		t := r.see()
		switch t.text {
		case "if":
			list = append(list, r.choice())
		case "while":
			list = append(list, r.loop())
		case "emit", "stop":
			list = append(list, r.telling(t.text))
		case "yield", "break", "continue":
			list = append(list, r.bare(t))
		case "{":
			list = append(list, statement{word: "{", body: r.block()})
		default:
			if t.kind != nameToken {
				break reading
			}
			list = append(list, r.assignment())
		}
	}
	return list
}

func (r *reader) assignment() statement {
	s := statement{word: assigning, variable: r.named()}
	if r.pass("[") {
		s.index = r.whole()
		r.take("]")
	}
	r.take("=")
	s.value = r.whole()
	r.take(";")
	return s
}

func (r *reader) telling(word string) statement {
	r.take(word)
	s := statement{word: word, value: r.whole()}
	r.take(";")
	return s
}

// bare reads a statement that is a word alone.
func (r *reader) bare(t token) statement {
	if t.text != "yield" && r.loops == 0 {
		r.note(nameFault, t.line)
	}
	r.take(t.text)
	r.take(";")
	return statement{word: t.text}
}

func (r *reader) loop() statement {
	r.take("while")
	s := statement{word: "while", value: r.whole()}
	r.loops++
	s.body = r.block()
	r.loops--
	return s
}

func (r *reader) choice() statement {
	r.take("if")
	s := statement{word: "if", value: r.whole()}
	s.body = r.block()
	if !r.pass("else") {
		return s
	}
	if r.see().text == "if" {
		s.otherwise = elseChoice
		s.rest = []statement{r.choice()}
		return s
	}
	s.otherwise = elseBlock
	s.rest = r.block()
	return s
}

func (r *reader) block() []statement {
	open := r.see()
	r.take("{")
	if r.blocks >= api.MaxDepth {
		r.note(depthFault, open.line)
	}
	r.blocks++
	list := r.statements()
	r.blocks--
	r.take("}")
	return list
}

// whole reads an expression that stands in a statement, not within another: of such the depth is looked at.
func (r *reader) whole() *expr {
	line := r.see().line
	e := r.expr(noLevel + 1)
	if e.depth > api.MaxDepth {
		r.note(depthFault, line)
	}
	return e
}

// expr reads an expression whose operators, but for those within brackets, are of this level or tighter. Those of one level are grouped from the left: the right side takes tighter ones alone.
func (r *reader) expr(loosest int) *expr {
	e := r.operand()
sides:
	for {
		sign := r.see().text
		level := levelOf(sign)
		if level < loosest {
			break sides
		}
		r.take(sign)
		right := r.expr(level + 1)
		e = &expr{kind: operatorExpr, operator: sign, left: e, right: right, depth: max(e.depth, 1+right.depth)}
	}
	return e
}

func (r *reader) operand() *expr {
	t := r.see()
	switch {
	case isSign(t.text):
		r.take(t.text)
		e := r.operand()
		return &expr{kind: signExpr, operator: t.text, left: e, depth: 1 + e.depth}
	case t.kind == numberToken:
		r.at++
		return &expr{kind: numberExpr, value: t.value, depth: 1}
	case r.pass("ask"):
		return &expr{kind: askExpr, depth: 1}
	case t.kind == nameToken:
		return r.nameOrElement()
	case r.pass("("):
		e := r.expr(noLevel + 1)
		r.take(")")
		e.depth++
		return e
	}
	r.refuse()
	return &expr{}
}

func (r *reader) nameOrElement() *expr {
	v := r.named()
	if !r.pass("[") {
		return &expr{kind: nameExpr, variable: v, depth: 1}
	}
	e := r.expr(noLevel + 1)
	r.take("]")
	return &expr{kind: elementExpr, variable: v, left: e, depth: 1 + e.depth}
}
