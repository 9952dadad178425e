package rewind

import "amber/api"

// What a watch looks at.
const (
	onPC = 1 + iota
	onReg
	onWord
	onState
)

// proper: a watch that names something which an environment has.
func proper(w api.Watch) bool {
	switch w.On {
	case onPC, onWord, onState:
		return true
	case onReg:
		return w.Reg >= 0 && w.Reg < api.NumRegs
	}
	return false
}

// shows: whether a watch holds of a tree.
func (p place) shows(t tree, w api.Watch) bool {
	envs, _ := p.k.Tree(t.root)
	if w.K < 0 || w.K >= len(envs) {
		return false
	}
	env := envs[w.K]
	x, _ := p.k.Env(env)
	switch w.On {
	case onPC:
		return x.Regs.PC == w.Value
	case onReg:
		return x.Regs.R[w.Reg] == w.Value
	case onWord:
		word, code := p.k.Load(env, w.Addr)
		return code == api.OK && word == w.Value
	}
	return uint32(x.State) == w.Value
}
