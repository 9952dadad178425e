package walk

import (
	"amber/api"
	"amber/gate"
)

// itself: the es by which the caller of a native call names itself.
const itself = -1

// tree: what the es of a caller's native calls opens. All that is asked of the kernel is asked here, by Call and in the caller's name.
type tree struct {
	k       *gate.Kernel
	env, es int
	size    int
}

// sight: a capability of the tree as the gate tells it: its thing is known by a serial, not numbered yet.
type sight struct {
	rec    api.CapRec // but for In and Obj
	serial int
	named  int // the place of the environment that it names, -1 where that is none of the tree
	dirty  bool
}

// open: the tree that the capability in env's slot names, if it has these rights. Behind it the gate refuses none of the calls that the rights allow.
func open(k *gate.Kernel, env, slot, rights int) (tree, api.Errno) {
	if k == nil {
		return tree{}, api.ErrArg
	}
	own := callersOwn(k, env).ask(api.NatCaps, 0)
	if own.Code != api.OK {
		return tree{}, own.Code
	}
	if code := admits(sights(0, own.Rows), slot, rights); code != api.OK {
		return tree{}, code
	}
	t := tree{k: k, env: env, es: slot}
	t.size = t.ask(api.NatCount).V[0]
	return t, api.OK
}

// admits looks for a capability on an environment; the slot -1, which the gate would take for the caller, is no slot here.
func admits(list []sight, slot, rights int) api.Errno {
	for _, c := range list {
		switch {
		case c.rec.Slot != slot:
			continue
		case c.rec.Kind != api.KindEnv:
			return api.ErrKind
		case rights&^c.rec.Rights != 0:
			return api.ErrRights
		}
		return api.OK
	}
	return api.ErrNoCap
}

func callersOwn(k *gate.Kernel, env int) tree { return tree{k: k, env: env, es: itself} }

func (t tree) ask(call int, args ...int) api.Reply {
	r := api.Request{Call: call}
	r.A[0] = t.es
	copy(r.A[1:], args)
	return t.k.Call(t.env, r)
}

func (t tree) envs() []api.EnvRec {
	var told []api.EnvRec
	for place := range t.size {
		told = append(told, envRec(place, t.ask(api.NatEnv, place)))
	}
	return told
}

// envRec: the first is told as frozen, whatever its flag is: it is frozen to be saved.
func envRec(place int, reply api.Reply) api.EnvRec {
	about, registers, more := reply.Rows[0], reply.Rows[1], reply.Rows[2]
	e := api.EnvRec{
		Parent: reply.V[0],
		State:  about[0],
		Code:   about[1],
		Bits:   about[2],
		Frozen: place == 0 || about[3] == 1,
		Quota:  api.Quota{Frames: about[4], Envs: about[5], Extents: about[6]},
	}
	for i := range api.NumRegs {
		e.Regs.R[i] = uint32(registers[i])
	}
	e.Regs.PC = uint32(more[0])
	return e
}

func (t tree) serialOf(place int) int { return t.ask(api.NatEnv, place).Rows[0][7] }

func (t tree) holdsCaller() bool {
	caller := callersOwn(t.k, t.env).serialOf(0)
	for place := range t.size {
		if t.serialOf(place) == caller {
			return true
		}
	}
	return false
}

func (t tree) caps() []sight {
	var told []sight
	for place := range t.size {
		told = append(told, sights(place, t.ask(api.NatCaps, place).Rows)...)
	}
	return told
}

func sights(place int, rows [][8]int) []sight {
	var told []sight
	for i := range len(rows) {
		row := rows[i]
		told = append(told, sight{
			rec:    api.CapRec{Env: place, Slot: row[0], Kind: row[1], Rights: row[2], From: api.Place{Env: row[5], Slot: row[6]}},
			serial: row[3],
			named:  row[4],
			dirty:  row[7] == 1,
		})
	}
	return told
}

func (t tree) maps() []api.MapRec {
	var told []api.MapRec
	for place := range t.size {
		rows := t.ask(api.NatMaps, place).Rows
		for i := range len(rows) {
			told = append(told, api.MapRec{Env: place, V: rows[i][0], Slot: rows[i][1], Write: rows[i][2] == 1})
		}
	}
	return told
}

// page: of the frame that a capability is on.
func (t tree) page(c sight) (api.Page, api.Key) {
	reply := t.ask(api.NatPage, c.rec.Env, c.rec.Slot)
	var p api.Page
	for i, b := range reply.Data {
		p[i/4] |= uint32(b) << (i % 4 * 8)
	}
	return p, api.Key{Serial: reply.V[2], Mark: reply.V[1]}
}

// clean tells how many frames were dirty: the capability's, or none.
func (t tree) clean(c sight) int { return t.ask(api.NatClean, c.rec.Env, c.rec.Slot).V[1] }

func (t tree) freeze(on bool) bool {
	flag := 0
	if on {
		flag = 1
	}
	return t.ask(api.NatFreeze, 0, flag).V[0] == 1
}
