package tongue

import "amber/api"

// The kinds of faults that are found as a source is read, in the order in which they count.
const (
	formFault = iota
	nameFault
	dataFault
	depthFault
	faultKinds
)

// reader goes through a source's tokens from the left. Of each kind of fault it notes the line of the first; behind one of form it reads nothing more.
type reader struct {
	tokens    []token
	at        int
	faults    [faultKinds]int // 0: there is none
	variables []variable
	places    map[string]int // of the variables, by name
	words     int            // of all variables so far
	blocks    int            // those that are open
	loops     int            // those whose block is open
}

// read is the program that a source tells, without its code.
func read(source string) (program, int, api.Errno) {
	r := reader{tokens: cut(source), places: map[string]int{}}
	list := r.program()
	codes := [faultKinds]api.Errno{formFault: api.ErrSource, nameFault: api.ErrName, dataFault: api.ErrBig, depthFault: api.ErrBig}
	for kind, line := range r.faults {
		if line != 0 {
			return program{}, line, codes[kind]
		}
	}
	return program{variables: r.variables, statements: list}, 0, api.OK
}

func (r *reader) note(kind, line int) {
	if r.faults[kind] == 0 {
		r.faults[kind] = line
	}
}

// see is the token that comes next; none, behind a fault of form: then no loop goes on.
func (r *reader) see() token {
	if r.faults[formFault] != 0 {
		return token{}
	}
	return r.tokens[r.at]
}

// refuse: no program goes on with the token that comes next.
func (r *reader) refuse() { r.note(formFault, r.see().line) }

// pass goes by this word or sign, if it comes next.
func (r *reader) pass(text string) bool {
	if r.see().text != text {
		return false
	}
	r.at++
	return true
}

// take goes by this word or sign, which must come next.
func (r *reader) take(text string) {
	if !r.pass(text) {
		r.refuse()
	}
}

func (r *reader) program() []statement {
	for r.pass("var") {
		r.declaration()
	}
	list := r.statements()
	if r.see().kind != endToken {
		r.refuse()
	}
	return list
}

func (r *reader) declaration() {
	name := r.see()
	if name.kind != nameToken && name.kind != wordToken {
		r.refuse()
		return
	}
	r.at++
	v := variable{name: name.text, size: 1}
	if r.pass("[") {
		v.array = true
		v.size = r.size()
		r.take("]")
	}
	r.take(";")
	r.declare(v, name)
}

// size is the number between a declaration's brackets.
func (r *reader) size() int {
	n := r.see()
	if n.kind != numberToken || n.value == 0 {
		r.refuse()
		return 0
	}
	r.at++
	return int(n.value)
}

func (r *reader) declare(v variable, name token) {
	if _, twice := r.places[v.name]; twice || name.kind == wordToken {
		r.note(nameFault, name.line)
	}
	v.at = api.DataAt + r.words
	r.words += v.size
	if r.words > api.MaxData {
		r.note(dataFault, name.line)
	}
	r.places[v.name] = len(r.variables)
	r.variables = append(r.variables, v)
}

// named goes by a name in the statements, and finds its variable; whether brackets follow the name must be as it was declared.
func (r *reader) named() variable {
	name := r.see()
	r.at++
	place, known := r.places[name.text]
	if !known {
		r.note(nameFault, name.line)
		return variable{}
	}
	v := r.variables[place]
	if v.array != (r.see().text == "[") {
		r.note(nameFault, name.line)
	}
	return v
}
