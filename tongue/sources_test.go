package tongue_test

import (
	"fmt"
	"slices"
	"strconv"
	"strings"
)

// Sources that are grown as trees, so that what they must become is known without reading them.

type decl struct {
	name string
	size int // 0: without brackets
	at   int
}

func (v *decl) words() int { return max(v.size, 1) }

// term: an expression. Round brackets are terms of their own.
type term struct {
	kind string // number, ask, name, element, sign, operator, round
	op   string
	n    uint32
	v    *decl
	l, r *term
}

type act struct {
	word  string // =, if, while, emit, stop, yield, break, continue, {
	v     *decl
	index *term
	value *term
	body  []*act
	other string // block, choice; none
	rest  []*act
}

type source struct {
	decls []*decl
	acts  []*act
}

// grower makes sources; what it may use of each kind.
type grower struct {
	*dice
	decls []*decl
	loops int
	left  int // acts that may yet be grown
}

var operatorTexts = strings.Fields("|| && | ^ & == != < <= > >= << >> + - * / %")

func grown(d *dice) source {
	for most := 30; ; most = most*2/3 + 1 {
		g := grower{dice: d, left: most}
		g.declare()
		s := source{g.decls, g.acts(0)}
		if len(s.code()) <= 384 {
			return s
		}
	}
}

func (g *grower) declare() {
	at := 384
	for i := range g.below(6) {
		v := &decl{name: []string{"a", "_", "Zz9", "abcdefghijklmnop", "ifx", "x0"}[i], at: at}
		if g.one(2) {
			v.size = 1 + g.below([]int{1, 3, 18}[g.below(3)])
		}
		at += v.words()
		g.decls = append(g.decls, v)
	}
}

// variable: one with brackets, or one without; nil, if there is none.
func (g *grower) variable(array bool) *decl {
	var l []*decl
	for _, v := range g.decls {
		if (v.size > 0) == array {
			l = append(l, v)
		}
	}
	if len(l) == 0 {
		return nil
	}
	return l[g.below(len(l))]
}

func (g *grower) acts(blocks int) []*act {
	var l []*act
	most := 5
	if blocks == 0 {
		most = 15
	}
	for range g.below(most + 1) {
		if g.left--; g.left < 0 {
			break
		}
		l = append(l, g.act(blocks))
	}
	return l
}

func (g *grower) act(blocks int) *act {
	if blocks < 15 {
		switch g.below(8) {
		case 0:
			return g.choice(blocks)
		case 1:
			return g.loop(blocks)
		case 2:
			if g.one(2) {
				return &act{word: "{", body: g.acts(blocks + 1)}
			}
			return g.counting(blocks)
		}
	}
	switch g.below(12) {
	case 0:
		return &act{word: "yield"}
	case 1:
		if g.loops > 0 {
			return &act{word: g.of("break", "continue")}
		}
	case 2:
		if g.one(4) {
			return &act{word: "stop", value: g.term(3)}
		}
	case 3, 4, 5:
		if v := g.variable(false); v != nil {
			return &act{word: "=", v: v, value: g.term(4)}
		}
	case 6, 7:
		if v := g.variable(true); v != nil {
			return &act{word: "=", v: v, index: g.index(v), value: g.term(4)}
		}
	}
	return &act{word: "emit", value: g.term(4)}
}

func (g *grower) choice(blocks int) *act {
	a := &act{word: "if", value: g.term(3), body: g.acts(blocks + 1)}
	switch g.below(3) {
	case 0:
		a.other, a.rest = "block", g.acts(blocks+1)
	case 1:
		a.other, a.rest = "choice", []*act{g.choice(blocks)}
	}
	return a
}

func (g *grower) loop(blocks int) *act {
	g.loops++
	a := &act{word: "while", value: g.term(3), body: g.acts(blocks + 1)}
	g.loops--
	return a
}

// counting: a loop that is over some time, where nothing else in it touches its variable.
func (g *grower) counting(blocks int) *act {
	v := g.variable(false)
	if v == nil {
		return g.loop(blocks)
	}
	name := &term{kind: "name", v: v}
	a := g.loop(blocks)
	a.value = &term{kind: "operator", op: "<", l: name, r: &term{kind: "number", n: uint32(g.below(9))}}
	step := &act{word: "=", v: v, value: &term{kind: "operator", op: "+", l: name, r: &term{kind: "number", n: 1}}}
	a.body = append([]*act{step}, a.body...)
	return a
}

func (g *grower) index(v *decl) *term {
	switch g.below(6) {
	case 0:
		return g.term(2)
	case 1, 2:
		return g.operator("%", g.term(2), &term{kind: "number", n: uint32(v.size)})
	}
	return &term{kind: "number", n: uint32(g.below(v.size + g.below(2)))}
}

func (g *grower) term(depth int) *term {
	t := g.bareTerm(depth)
	if g.one(9) {
		return &term{kind: "round", l: t}
	}
	return t
}

func (g *grower) bareTerm(depth int) *term {
	kind := g.below(10)
	if depth < 1 {
		kind = 6 + g.below(4)
	}
	switch kind {
	case 0, 1, 2, 3:
		op := g.of(operatorTexts...)
		r := g.term(depth - 1)
		if (op == "/" || op == "%") && !g.one(3) {
			r = g.operator("|", r, &term{kind: "number", n: 1})
		}
		return g.operator(op, g.term(depth-1), r)
	case 4:
		return &term{kind: "sign", op: g.of("-", "!", "~"), l: g.signed(g.term(depth - 1))}
	case 5:
		if v := g.variable(true); v != nil {
			return &term{kind: "element", v: v, l: g.index(v)}
		}
	case 6, 7:
		if v := g.variable(false); v != nil {
			return &term{kind: "name", v: v}
		}
	case 8:
		return &term{kind: "ask"}
	}
	return &term{kind: "number", n: g.word()}
}

func (g *grower) signed(t *term) *term {
	if t.kind == "operator" {
		return &term{kind: "round", l: t}
	}
	return t
}

// operator: its sides in round brackets where they would else be read another way.
func (g *grower) operator(op string, l, r *term) *term {
	if l.kind == "operator" && levels[l.op] < levels[op] {
		l = &term{kind: "round", l: l}
	}
	if r.kind == "operator" && levels[r.op] <= levels[op] {
		r = &term{kind: "round", l: r}
	}
	return &term{kind: "operator", op: op, l: l, r: r}
}

// tokens: those of the source, numbers in tens.
func (s source) tokens() []string {
	var l []string
	for _, v := range s.decls {
		l = append(l, "var", v.name)
		if v.size > 0 {
			l = append(l, "[", strconv.Itoa(v.size), "]")
		}
		l = append(l, ";")
	}
	return append(l, tokensOf(s.acts)...)
}

func tokensOf(acts []*act) []string {
	var l []string
	for _, a := range acts {
		l = append(l, a.tokens()...)
	}
	return l
}

func blockTokens(acts []*act) []string {
	return slices.Concat([]string{"{"}, tokensOf(acts), []string{"}"})
}

func (a *act) tokens() []string {
	switch a.word {
	case "=":
		l := []string{a.v.name}
		if a.index != nil {
			l = slices.Concat(l, []string{"["}, a.index.tokens(), []string{"]"})
		}
		return slices.Concat(l, []string{"="}, a.value.tokens(), []string{";"})
	case "{":
		return blockTokens(a.body)
	case "while":
		return slices.Concat([]string{"while"}, a.value.tokens(), blockTokens(a.body))
	case "if":
		l := slices.Concat([]string{"if"}, a.value.tokens(), blockTokens(a.body))
		switch a.other {
		case "block":
			return slices.Concat(l, []string{"else"}, blockTokens(a.rest))
		case "choice":
			return slices.Concat(l, []string{"else"}, a.rest[0].tokens())
		}
		return l
	case "emit", "stop":
		return slices.Concat([]string{a.word}, a.value.tokens(), []string{";"})
	}
	return []string{a.word, ";"}
}

func (t *term) tokens() []string {
	switch t.kind {
	case "number":
		return []string{strconv.FormatUint(uint64(t.n), 10)}
	case "ask":
		return []string{"ask"}
	case "name":
		return []string{t.v.name}
	case "element":
		return slices.Concat([]string{t.v.name, "["}, t.l.tokens(), []string{"]"})
	case "sign":
		return append([]string{t.op}, t.l.tokens()...)
	case "round":
		return slices.Concat([]string{"("}, t.l.tokens(), []string{")"})
	}
	return slices.Concat(t.l.tokens(), []string{t.op}, t.r.tokens())
}

// merge tells whether two tokens with nothing between would be read as others.
func merge(a, b string) bool {
	if a == "" || b == "" {
		return false
	}
	if runByte(a[len(a)-1]) && runByte(b[0]) {
		return true
	}
	return len(a) == 1 && slices.Contains(strings.Fields("|| && == != <= >= << >> //"), a+b[:1])
}

// dressed: tokens as a text, with blanks, comments and other forms of its numbers.
func (d *dice) dressed(tokens []string) string {
	var b strings.Builder
	last := ""
	for _, t := range tokens {
		if kindOf(t) == "number" {
			t = d.spelt(t)
		}
		gap := ""
		for d.one(3) || merge(last, t) && gap == "" {
			gap += d.of(" ", "\t", "\n", " \n\t", " // } \xff\u20ac ; emit\n", "\n//\n", " ///\n")
		}
		b.WriteString(gap + t)
		last = t
	}
	return b.String() + d.of("", "", " ", "\n", "\t// var", " //\n")
}

func (d *dice) spelt(number string) string {
	n := valueOf(number)
	switch d.below(5) {
	case 0:
		return fmt.Sprintf("0x%x", n)
	case 1:
		return fmt.Sprintf("0x%0*x", 1+d.below(8), n)
	case 2:
		return fmt.Sprintf("%0*d", 1+d.below(10), n)
	}
	return number
}

// plain: the one form of the source.
func (s source) plain() string {
	var l []string
	for _, v := range s.decls {
		if v.size > 0 {
			l = append(l, fmt.Sprintf("var %s[%d];", v.name, v.size))
		} else {
			l = append(l, "var "+v.name+";")
		}
	}
	l = append(l, plainLines(s.acts)...)
	if len(l) == 0 {
		return ""
	}
	return strings.Join(l, "\n") + "\n"
}

func plainLines(acts []*act) []string {
	var l []string
	for _, a := range acts {
		l = append(l, a.plain()...)
	}
	return l
}

func moved(lines []string) []string {
	var l []string
	for _, x := range lines {
		l = append(l, "\t"+x)
	}
	return l
}

func (a *act) plain() []string {
	switch a.word {
	case "=":
		left := a.v.name
		if a.index != nil {
			left += "[" + a.index.plain() + "]"
		}
		return []string{left + " = " + a.value.plain() + ";"}
	case "{":
		return slices.Concat([]string{"{"}, moved(plainLines(a.body)), []string{"}"})
	case "while":
		return slices.Concat([]string{"while " + a.value.plain() + " {"}, moved(plainLines(a.body)), []string{"}"})
	case "if":
		l := slices.Concat([]string{"if " + a.value.plain() + " {"}, moved(plainLines(a.body)))
		switch a.other {
		case "block":
			return slices.Concat(l, []string{"} else {"}, moved(plainLines(a.rest)), []string{"}"})
		case "choice":
			rest := a.rest[0].plain()
			rest[0] = "} else " + rest[0]
			return append(l, rest...)
		}
		return append(l, "}")
	case "emit", "stop":
		return []string{a.word + " " + a.value.plain() + ";"}
	}
	return []string{a.word + ";"}
}

// core: what stands within round brackets.
func (t *term) core() *term {
	for t.kind == "round" {
		t = t.l
	}
	return t
}

func rounded(t *term, round bool) string {
	if round {
		return "(" + t.plain() + ")"
	}
	return t.plain()
}

func (t *term) plain() string {
	t = t.core()
	switch t.kind {
	case "element":
		return t.v.name + "[" + t.l.plain() + "]"
	case "sign":
		l := t.l.core()
		return t.op + rounded(l, l.kind == "operator")
	case "operator":
		l, r := t.l.core(), t.r.core()
		return rounded(l, l.kind == "operator" && levels[l.op] < levels[t.op]) + " " + t.op + " " + rounded(r, r.kind == "operator" && levels[r.op] <= levels[t.op])
	}
	return t.tokens()[0]
}
