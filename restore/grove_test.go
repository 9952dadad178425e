package restore_test

import (
	"slices"
	"testing"

	"amber/api"
	"amber/gate"
)

// Trees that live: environments that do whatever they may, most of it refused or not by chance; and forests that are grown, or spoilt.

// plant makes two trees below environment 0, the root of a third within the first, and things outside that are lent to them.
func plant(t *testing.T, k *gate.Kernel, d *dice) {
	t.Helper()
	a := do(t, k, 0, api.CallSpawn, 20, 4, 3)
	b := do(t, k, 0, api.CallSpawn, 6, 1, 1)
	do(t, k, 0, api.NatNew, a, 0, 7, 1, 1)
	do(t, k, 0, api.NatNew, a, 1, 2, 0, 0)
	do(t, k, 0, api.NatNew, b, 0, 2, 0, 0)
	do(t, k, 0, api.NatSelf, -1, 2, 0, -1, 3)
	lent := []int{do(t, k, 0, api.CallAlloc), do(t, k, 0, api.NatClaim, -1), do(t, k, 0, api.CallSpawn, 1, 0, 0)}
	for n := range 12 {
		root, size := a, 3
		if n%3 == 2 {
			root, size = b, 2
		}
		tree, _ := k.Tree(envAt(k, 0, root))
		k.Call(tree[n%size], request(api.CallAlloc))
		do(t, k, 0, api.NatSelf, root, d.below(size), n%size, -1, d.of(15, 7, 3))
		if d.below(2) == 0 {
			k.Call(0, request(api.NatPlace, d.of(lent...), root, n%size, -1, d.of(15, 7, 5)))
		}
		k.Call(tree[n%size], request(api.CallMap, n/3, d.below(3), 1))
	}
}

// envAt: the number of the environment that a slot names.
func envAt(k *gate.Kernel, env, slot int) int {
	for _, c := range k.State().Caps {
		if c.Held.Env == env && c.Held.Slot == slot && c.Held.Cap.Kind == api.KindEnv {
			return c.Held.Cap.Obj
		}
	}
	return -1
}

// held: an environment's capabilities of that kind (0: of any).
func held(k *gate.Kernel, env, kind int) []api.Held {
	var l []api.Held
	for _, c := range k.State().Caps {
		if c.Held.Env == env && (kind == 0 || c.Held.Cap.Kind == kind) {
			l = append(l, c.Held)
		}
	}
	return l
}

// anyTree: the holder and slot of a capability by which a tree can be read; -1, -1, if there is none.
func (d *dice) anyTree(k *gate.Kernel) (int, int) {
	var l []api.Held
	for _, c := range k.State().Caps {
		if c.Held.Cap.Kind == api.KindEnv && c.Held.Cap.Rights&1 == 1 {
			l = append(l, c.Held)
		}
	}
	if len(l) == 0 {
		return -1, -1
	}
	h := l[d.below(len(l))]
	return h.Env, h.Slot
}

func (d *dice) slot(k *gate.Kernel, env, kind int) int {
	l := held(k, env, kind)
	if len(l) == 0 {
		return d.below(48)
	}
	return l[d.below(len(l))].Slot
}

func (d *dice) rights() int { return d.of(15, 15, 15, 7, 3, 5, d.below(16)) }

// page: one that is mapped, where there is one.
func (d *dice) page(k *gate.Kernel, env int) int {
	var l []int
	for _, x := range k.State().Maps {
		if x.Env == env {
			l = append(l, x.V)
		}
	}
	if len(l) == 0 {
		return d.below(16)
	}
	return d.of(l...)
}

// live lets the environments below environment 0 act; its own list is touched only by what goes with an environment that ends.
func live(k *gate.Kernel, d *dice, acts int) {
	for range acts {
		tree, _ := k.Tree(0)
		if len(tree) == 1 {
			return
		}
		env := tree[1+d.below(len(tree)-1)]
		if d.below(3) == 0 {
			k.Store(env, uint32(32*d.page(k, env)+d.below(32)), uint32(d.of(0, 1, 1<<32-1, d.below(1<<31))))
			continue
		}
		k.Call(env, d.request(k, env))
	}
}

// request: one that changes something, of an environment's.
func (d *dice) request(k *gate.Kernel, env int) api.Request {
	slot, frame, es := d.slot(k, env, 0), d.slot(k, env, api.KindFrame), d.slot(k, env, api.KindEnv)
	switch d.below(24) {
	case 0, 1:
		return request(api.CallAlloc)
	case 2, 3:
		return request(api.CallMap, d.below(6), frame, d.below(2))
	case 4:
		return request(d.of(api.CallUnmap, api.CallProtect), d.page(k, env), d.below(2))
	case 5, 16:
		return request(api.CallDerive, slot, d.rights())
	case 6, 7:
		return request(api.CallGrant, slot, es, d.rights())
	case 8:
		return request(d.of(api.CallDrop, api.CallDrop, api.CallRevoke), slot)
	case 9:
		return request(api.CallSpawn, d.below(4), d.below(2), d.below(2))
	case 10:
		return request(d.of(api.CallStart, api.CallNotify), es, d.below(4))
	case 11:
		return request(d.of(api.CallWait, api.CallExit), d.below(9))
	case 12:
		return request(d.of(api.CallKill, api.CallNotify, api.CallStatus), es)
	case 13:
		return request(api.CallSetReg, es, d.below(9), d.below(1<<31))
	case 14, 15:
		return api.Request{Call: api.NatFill, A: [6]int{frame}, Data: slices.Repeat([]byte{byte(d.below(256)), 0}, 64)}
	case 17:
		return request(api.NatFreeze, d.of(-1, es), 0, d.below(2))
	case 18:
		return request(api.NatPlace, slot, es, d.below(2), d.of(-1, d.below(48)), d.rights())
	case 19, 23:
		return request(api.NatCopy, es, d.below(2), d.below(4), d.below(2), d.of(-1, d.below(48)), d.rights())
	case 20:
		return request(api.NatSelf, d.of(-1, es), d.below(2), 0, -1, d.rights())
	case 21:
		return request(api.NatMapIn, es, d.below(2), d.below(6), d.below(4), d.below(2))
	}
	return api.Request{Call: api.NatSet, A: [6]int{es, 0, d.below(5), d.below(99), d.below(99)}, Data: make([]byte, 36)}
}

// thing: something that a grown forest may have for an out, and the rights that it may ask for.
type thing struct {
	out    api.OutRec
	rights int
}

// lendable: what an environment can hand on.
func lendable(k *gate.Kernel, env int) []thing {
	var l []thing
	for _, h := range held(k, env, 0) {
		if h.Cap.Rights&api.Grant != 0 {
			l = append(l, thing{api.OutRec{Kind: h.Cap.Kind, Serial: h.Cap.Serial}, h.Cap.Rights})
		}
	}
	return l
}

// grown: a forest that a tree can have, with records of all kinds, whose outs are such things.
func grown(d *dice, outs []thing) api.Forest {
	f := api.Forest{Envs: grownEnvs(d)}
	frames, extents := 0, 0
	for e := range f.Envs {
		for slot := d.below(9); slot < api.MaxSlots && frames < 24 && extents < 10; slot += 1 + d.below(15) {
			c := api.CapRec{Env: e, Slot: slot, Kind: d.of(1, 1, 2), Rights: d.of(15, 15, 7, d.below(16)), In: true, From: none}
			if d.one(3) && len(outs) > 0 {
				giveOut(&f, &c, outs[d.below(len(outs))])
			} else if c.Kind == api.KindEnv {
				c.Obj = d.below(len(f.Envs))
			} else {
				c.Obj = d.of(d.below(len(f.Pages)+1), len(f.Pages), max(len(f.Pages)-1, 0))
				if c.Obj == len(f.Pages) {
					f.Pages = append(f.Pages, api.Page{0: uint32(c.Obj), 1: d.word(), 31: d.word()})
				}
			}
			switch c.Kind {
			case api.KindFrame:
				frames++
			case api.KindExtent:
				extents++
			}
			f.Caps = append(f.Caps, c)
		}
	}
	ownAll(d, &f)
	deriveSome(d, f.Caps)
	mapSome(d, &f)
	payAll(d, &f)
	return f
}

func grownEnvs(d *dice) []api.EnvRec {
	envs := []api.EnvRec{{Parent: -1, Frozen: true}}
	for range d.of(0, d.below(4), d.below(9)) {
		parent := len(envs) - 1
		for parent > 0 && d.one(2) {
			parent = envs[parent].Parent
		}
		envs = append(envs, api.EnvRec{Parent: parent, Frozen: d.one(2)})
	}
	for i := range envs {
		e := &envs[i]
		e.State, e.Code, e.Bits = d.below(5), int(d.word()), int(d.word())
		for r := range e.Regs.R {
			e.Regs.R[r] = d.word()
		}
		e.Regs.PC = d.word()
	}
	return envs
}

func giveOut(f *api.Forest, c *api.CapRec, x thing) {
	if !slices.Contains(f.Outs, x.out) {
		f.Outs = append(f.Outs, x.out)
	}
	c.Kind, c.In, c.Obj, c.Rights = x.out.Kind, false, slices.Index(f.Outs, x.out), c.Rights&x.rights
	if c.Kind == api.KindFrame {
		c.Rights &^= api.Own
	}
}

func ownAll(d *dice, f *api.Forest) {
	for class := range f.Pages {
		var on []int
		for i, c := range f.Caps {
			if c.In && c.Kind == api.KindFrame && c.Obj == class {
				on = append(on, i)
			}
		}
		f.Caps[d.of(on...)].Rights |= api.Own
	}
}

// deriveSome: from those ahead and behind, so that a From may lie behind.
func deriveSome(d *dice, caps []api.CapRec) {
	for range 2 * len(caps) {
		c, from := &caps[d.below(len(caps))], caps[d.below(len(caps))]
		fits := from.Kind == c.Kind && from.In == c.In && from.Obj == c.Obj && from.Rights&api.Grant != 0 && c.Rights&^from.Rights == 0
		if fits && !below(caps, api.Place{Env: from.Env, Slot: from.Slot}, api.Place{Env: c.Env, Slot: c.Slot}) {
			c.From = api.Place{Env: from.Env, Slot: from.Slot}
		}
	}
}

// below tells whether p is q or derived from it.
func below(caps []api.CapRec, p, q api.Place) bool {
	for p != none && p != q {
		at := slices.IndexFunc(caps, func(c api.CapRec) bool { return c.Env == p.Env && c.Slot == p.Slot })
		p = caps[at].From
	}
	return p == q
}

func mapSome(d *dice, f *api.Forest) {
	for e := range f.Envs {
		for v := range api.MaxPages {
			if len(f.Caps) == 0 || !d.one(3) {
				continue
			}
			c := f.Caps[d.below(len(f.Caps))]
			if c.Env == e && c.Kind == api.KindFrame && c.Rights&api.Read != 0 {
				f.Maps = append(f.Maps, api.MapRec{Env: e, V: v, Slot: c.Slot, Write: c.Rights&api.Write != 0 && d.one(2)})
			}
		}
	}
}

// payAll gives each environment just what it pays, or a little more, from the leaves up.
func payAll(d *dice, f *api.Forest) {
	for i := len(f.Envs) - 1; i >= 0; i-- {
		q := &f.Envs[i].Quota
		for _, c := range f.Caps {
			if c.Env == i && c.Kind == api.KindFrame {
				q.Frames++
			}
			if c.Env == i && c.Kind == api.KindExtent {
				q.Extents++
			}
		}
		q.Frames, q.Extents = q.Frames+d.of(0, 0, 0, 1), q.Extents+d.of(0, 0, 0, 1)
		if i > 0 {
			p := &f.Envs[f.Envs[i].Parent].Quota
			p.Frames, p.Envs, p.Extents = p.Frames+q.Frames, p.Envs+1+q.Envs, p.Extents+q.Extents
		}
	}
}

// spoilt: a forest of which one number is another; it may still be one that a tree can have.
func spoilt(d *dice, f api.Forest) api.Forest {
	f = cloned(f)
	n := d.of(-1, 0, 1, 2, 3, 4, 15, 16, 63, 64, d.below(100))
	e := &f.Envs[d.below(len(f.Envs))]
	switch d.below(6) {
	case 0:
		*d.field(&e.Parent, &e.State, &e.Code, &e.Bits, &e.Quota.Frames, &e.Quota.Envs, &e.Quota.Extents) = n
		return f
	case 1:
		e.Frozen = !e.Frozen
		return f
	case 2:
		if len(f.Outs) > 0 {
			o := &f.Outs[d.below(len(f.Outs))]
			*d.field(&o.Kind, &o.Serial, &o.Serial) = n
			return f
		}
	case 3:
		if len(f.Maps) > 0 {
			m := &f.Maps[d.below(len(f.Maps))]
			*d.field(&m.Env, &m.V, &m.Slot) = n
			m.Write = d.one(2)
			return f
		}
	}
	if len(f.Caps) > 0 {
		c := &f.Caps[d.below(len(f.Caps))]
		*d.field(&c.Env, &c.Slot, &c.Kind, &c.Rights, &c.Rights, &c.Obj, &c.From.Env, &c.From.Slot) = n
		c.In = c.In != d.one(8)
	}
	return f
}

func (d *dice) field(l ...*int) *int { return l[d.below(len(l))] }
