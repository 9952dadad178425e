package ckpt_test

import (
	"slices"
	"testing"

	"amber/api"
	"amber/gate"
)

// Trees that live: environments that do whatever they may, most of it refused or not by chance.

// plant makes two trees below environment 0, the root of a third within the first, and things outside that are lent to them.
func plant(t *testing.T, k *gate.Kernel, d *dice) {
	t.Helper()
	a := do(t, k, 0, api.CallSpawn, 24, 5, 4)
	b := do(t, k, 0, api.CallSpawn, 12, 2, 2)
	do(t, k, 0, api.NatNew, a, 0, 8, 1, 1)
	do(t, k, 0, api.NatNew, a, 1, 2, 0, 0)
	do(t, k, 0, api.NatNew, b, 0, 4, 0, 0)
	do(t, k, 0, api.NatSelf, -1, 2, 0, -1, 3)
	lent := []int{do(t, k, 0, api.CallAlloc), do(t, k, 0, api.NatClaim, -1), do(t, k, 0, api.CallSpawn, 1, 0, 0)}
	for n := range 12 {
		root, size := a, 3
		if n%3 == 2 {
			root, size = b, 2
		}
		tree, _ := k.Tree(envAt(k, 0, root))
		k.Call(tree[n%size], request(api.CallAlloc))
		do(t, k, 0, api.NatSelf, root, d.below(size), n%size, -1, d.of(15, 7, 3))
		k.Call(0, request(api.NatPlace, d.of(lent...), root, n%size, -1, d.of(15, 7, 5)))
		k.Call(tree[n%size], request(api.CallMap, n/3, d.below(3), 1))
	}
}

// envAt: the number of the environment that a slot names.
func envAt(k *gate.Kernel, env, slot int) int {
	for _, c := range k.State().Caps {
		if c.Held.Env == env && c.Held.Slot == slot && c.Held.Cap.Kind == api.KindEnv {
			return c.Held.Cap.Obj
		}
	}
	return -1
}

// held: an environment's capabilities of that kind (0: of any).
func held(k *gate.Kernel, env, kind int) []api.Held {
	var l []api.Held
	for _, c := range k.State().Caps {
		if c.Held.Env == env && (kind == 0 || c.Held.Cap.Kind == kind) {
			l = append(l, c.Held)
		}
	}
	return l
}

// trees: the slots of an environment's list that a Checkpoint takes.
func trees(k *gate.Kernel, env int) []int {
	var l []int
	for _, h := range held(k, env, api.KindEnv) {
		if tree, _ := k.Tree(h.Cap.Obj); h.Cap.Rights&3 == 3 && !slices.Contains(tree, env) {
			l = append(l, h.Slot)
		}
	}
	return l
}

func (d *dice) slot(k *gate.Kernel, env, kind int) int {
	l := held(k, env, kind)
	if len(l) == 0 {
		return d.below(48)
	}
	return l[d.below(len(l))].Slot
}

func (d *dice) rights() int { return d.of(15, 15, 15, 7, 3, 5, d.below(16)) }

// page: one that is mapped, where there is one.
func (d *dice) page(k *gate.Kernel, env int) int {
	var l []int
	for _, x := range k.State().Maps {
		if x.Env == env {
			l = append(l, x.V)
		}
	}
	if len(l) == 0 {
		return d.below(16)
	}
	return d.of(l...)
}

// live lets the environments below environment 0 act; its own list is touched only by what goes with an environment that ends.
func live(k *gate.Kernel, d *dice, acts int) {
	for range acts {
		tree, _ := k.Tree(0)
		if len(tree) == 1 {
			return
		}
		env := tree[1+d.below(len(tree)-1)]
		if d.below(3) == 0 {
			k.Store(env, uint32(32*d.page(k, env)+d.below(32)), uint32(d.of(0, 1, 1<<32-1, d.below(1<<31))))
			continue
		}
		k.Call(env, d.request(k, env))
	}
}

// request: one that changes something, of an environment's.
func (d *dice) request(k *gate.Kernel, env int) api.Request {
	slot, frame, es := d.slot(k, env, 0), d.slot(k, env, api.KindFrame), d.slot(k, env, api.KindEnv)
	switch d.below(24) {
	case 0, 1:
		return request(api.CallAlloc)
	case 2, 3:
		return request(api.CallMap, d.below(6), frame, d.below(2))
	case 4:
		return request(d.of(api.CallUnmap, api.CallProtect), d.page(k, env), d.below(2))
	case 5:
		return request(api.CallDerive, slot, d.rights())
	case 6, 7:
		return request(api.CallGrant, slot, es, d.rights())
	case 8:
		return request(d.of(api.CallDrop, api.CallDrop, api.CallRevoke), slot)
	case 9:
		return request(api.CallSpawn, d.below(4), d.below(2), d.below(2))
	case 10:
		return request(d.of(api.CallStart, api.CallNotify), es, d.below(4))
	case 11:
		return request(d.of(api.CallWait, api.CallExit), d.below(9))
	case 12:
		return request(d.of(api.CallKill, api.CallNotify, api.CallStatus), es)
	case 13:
		return request(api.CallSetReg, es, d.below(9), d.below(1<<31))
	case 14, 15:
		return api.Request{Call: api.NatFill, A: [6]int{frame}, Data: slices.Repeat([]byte{byte(d.below(256)), 0}, 64)}
	case 16:
		return request(api.NatClean, -1, 0, frame)
	case 17:
		return request(api.NatFreeze, d.of(-1, es), 0, d.below(2))
	case 18:
		return request(api.NatPlace, slot, es, d.below(2), d.of(-1, d.below(48)), d.rights())
	case 19:
		return request(api.NatCopy, es, d.below(2), d.below(4), d.below(2), -1, d.rights())
	case 20:
		return request(api.NatSelf, d.of(-1, es), d.below(2), 0, -1, d.rights())
	case 21:
		return request(api.NatMapIn, es, d.below(2), d.below(6), d.below(4), d.below(2))
	case 22:
		return api.Request{Call: api.NatSet, A: [6]int{es, 0, d.below(5), d.below(99), d.below(99)}, Data: make([]byte, 36)}
	}
	return request(d.of(api.CallRead, api.CallWrite), d.slot(k, env, api.KindExtent), d.below(32), d.page(k, env))
}
