package tongue

import "amber/api"

// How a statement is left.
const (
	onward  = iota
	leaving // by break
	again   // by continue
)

// machine: a source that is gone through. When it is over nothing more is spent, told or ended: what is done on the way out changes nothing of its meaning.
type machine struct {
	api.Meaning
	words   [api.MaxData]uint32
	answers []uint32 // that are left
	fuel    int      // that is left
	over    bool
}

// meaning is what these statements mean.
func meaning(list []statement, answers []uint32, fuel int) api.Meaning {
	m := machine{answers: answers, fuel: fuel}
	m.all(list)
	m.stop(0)
	return m.Meaning
}

func (m *machine) end(state, code int) {
	if !m.over {
		m.over = true
		m.State, m.Code = state, code
	}
}

// spend tells whether there was a unit to spend; if there was none the program rests.
func (m *machine) spend() bool {
	if m.fuel == 0 {
		m.end(api.Ready, 0)
	}
	if m.over {
		return false
	}
	m.fuel--
	m.Used++
	return true
}

func (m *machine) tell(call int, value uint32) {
	if !m.over {
		m.Outs = append(m.Outs, api.Out{Call: call, Value: value})
	}
}

func (m *machine) stop(code uint32) {
	m.tell(api.CallExit, code)
	m.end(api.Done, int(code))
}

// all does statements one after the other, till one is left by break or continue.
func (m *machine) all(list []statement) int {
	for _, s := range list {
		if left := m.do(s); left != onward {
			return left
		}
	}
	return onward
}

func (m *machine) do(s statement) int {
	if s.word == "{" {
		return m.all(s.body)
	}
	if !m.spend() {
		return onward
	}
	switch s.word {
	case assigning:
		m.assign(s)
	case "if":
		return m.choose(s)
	case "while":
		m.repeat(s)
	case "emit":
		m.tell(api.CallEmit, m.value(s.value))
	case "stop":
		m.stop(m.value(s.value))
	case "yield":
		m.tell(api.CallYield, 0)
	case "break":
		return leaving
	case "continue":
		return again
	}
	return onward
}

// assign looks at the index ahead of the value.
func (m *machine) assign(s statement) {
	place := s.variable.at - api.DataAt
	if s.index != nil {
		index, ok := m.index(s.variable, s.index)
		if !ok {
			return
		}
		place += index
	}
	m.words[place] = m.value(s.value)
}

func (m *machine) choose(s statement) int {
	if m.value(s.value) != 0 {
		return m.all(s.body)
	}
	return m.all(s.rest)
}

func (m *machine) repeat(s statement) {
	for m.spend() && m.value(s.value) != 0 && m.all(s.body) != leaving {
	}
}

// index is the value of e; where it is none of the array's the program stops.
func (m *machine) index(array variable, e *expr) (int, bool) {
	n := int(m.value(e))
	if n >= array.size {
		m.stop(api.MaxWord)
		return 0, false
	}
	return n, true
}

func (m *machine) value(e *expr) uint32 {
	switch e.kind {
	case numberExpr:
		return e.value
	case askExpr:
		return m.ask()
	case nameExpr:
		return m.words[e.variable.at-api.DataAt]
	case elementExpr:
		return m.element(e)
	case signExpr:
		return applySign(e.operator, m.value(e.left))
	}
	return m.operation(e)
}

// ask takes the next answer.
func (m *machine) ask() uint32 {
	if !m.spend() {
		return 0
	}
	answer := uint32(0)
	if len(m.answers) > 0 {
		answer = m.answers[0]
		m.answers = m.answers[1:]
		m.Taken++
	}
	m.tell(api.CallAsk, answer)
	return answer
}

func (m *machine) element(e *expr) uint32 {
	index, ok := m.index(e.variable, e.left)
	if !ok {
		return 0
	}
	return m.words[e.variable.at-api.DataAt+index]
}

func (m *machine) operation(e *expr) uint32 {
	left := m.value(e.left)
	switch {
	case e.operator == andAlso && left == 0:
		return 0
	case e.operator == orElse && left != 0:
		return 1
	}
	right := m.value(e.right)
	if right == 0 && divides(e.operator) {
		m.end(api.Faulted, int(api.ErrDiv))
		return 0
	}
	return apply(e.operator, left, right)
}
