package env

import "amber/api"

// record: an environment: what is told of it, and its quota book. What is left stands in the book alone; Env.Left is filled in when it is told.
type record struct {
	api.Env
	book
}

// newRecord: a new environment: Idle, with nothing paid and nothing carved.
func newRecord(serial, parent int, q api.Quota) *record {
	return &record{Env: api.Env{Serial: serial, Parent: parent, Quota: q}, book: book{left: q}}
}

func (r *record) tell() api.Env {
	told := r.Env
	told.Left = r.left
	return told
}

// notice adds bits, and hands over all there are to one that waits for them.
func (r *record) notice(bits int) {
	r.Bits |= bits
	if r.State != api.Waiting || r.Bits == 0 {
		return
	}
	r.State = api.Ready
	r.Regs.R[0], r.Regs.R[1] = 0, uint32(r.takeBits())
}

// wait takes the bits; where there are none it makes the environment wait.
func (r *record) wait() int {
	if r.Bits == 0 {
		r.State = api.Waiting
	}
	return r.takeBits()
}

func (r *record) takeBits() int {
	bits := r.Bits
	r.Bits = 0
	return bits
}

func isWord(n int) bool { return n >= 0 && n <= api.MaxWord }
