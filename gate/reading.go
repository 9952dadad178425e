package gate

import (
	"slices"

	"amber/api"
	"amber/mem"
)

// itself: the es by which a caller of a native call names itself.
const itself = -1

// tree: the environments that a native call's es opens to its caller, in preorder. A caller may do all with itself and what is below it.
func (k *Kernel) tree(env, es, rights int) ([]int, api.Errno) {
	if es == itself {
		return k.envs.Tree(env)
	}
	c, code := k.held(env, es, api.KindEnv, rights)
	if code != api.OK {
		return nil, code
	}
	return k.envs.Tree(c.Obj)
}

// kth: the tree of es, and the environment at a place of it.
func (k *Kernel) kth(env, es, place, rights int) ([]int, int, api.Errno) {
	tree, code := k.tree(env, es, rights)
	if code != api.OK {
		return nil, 0, code
	}
	if !isPlace(tree, place) {
		return nil, 0, api.ErrArg
	}
	return tree, tree[place], api.OK
}

func isPlace(tree []int, place int) bool { return within(place, 0, len(tree)-1) }

func (k *Kernel) count(env int, r api.Request) (api.Reply, api.Errno) {
	tree, code := k.tree(env, r.A[0], api.Read)
	if code != api.OK {
		return only(code)
	}
	return tell(len(tree))
}

func (k *Kernel) tellEnv(env int, r api.Request) (api.Reply, api.Errno) {
	tree, e, code := k.kth(env, r.A[0], r.A[1], api.Read)
	if code != api.OK {
		return only(code)
	}
	x, _ := k.envs.Info(e)
	reply, _ := tell(slices.Index(tree, x.Parent), k.lists.Room(e))
	reply.Rows = envRows(x)
	return reply, api.OK
}

func envRows(x api.Env) [][8]int {
	var regs [8]int
	for i, v := range x.Regs.R {
		regs[i] = int(v)
	}
	return [][8]int{
		{x.State, x.Code, x.Bits, digit(x.Frozen), x.Quota.Frames, x.Quota.Envs, x.Quota.Extents, x.Serial},
		regs,
		{int(x.Regs.PC), x.Left.Frames, x.Left.Envs, x.Left.Extents},
	}
}

func (k *Kernel) tellCaps(env int, r api.Request) (api.Reply, api.Errno) {
	tree, e, code := k.kth(env, r.A[0], r.A[1], api.Read)
	if code != api.OK {
		return only(code)
	}
	list, _ := k.lists.List(e)
	var reply api.Reply
	for _, h := range list {
		reply.Rows = append(reply.Rows, k.capRow(tree, h))
	}
	return reply, api.OK
}

// capRow tells a capability as it is seen from a tree: whatever lies outside it is -1.
func (k *Kernel) capRow(tree []int, h api.Held) [8]int {
	named := -1
	if h.Cap.Kind == api.KindEnv {
		named = slices.Index(tree, h.Cap.Obj)
	}
	from, _ := k.lists.Up(h.Env, h.Slot, tree)
	return [8]int{h.Slot, h.Cap.Kind, h.Cap.Rights, h.Cap.Serial, named, slices.Index(tree, from.Env), from.Slot, digit(k.dirty(h.Cap))}
}

func (k *Kernel) dirty(c api.Cap) bool {
	if c.Kind != api.KindFrame {
		return false
	}
	f, _ := k.frames.Info(c.Obj)
	return f.Dirty
}

func (k *Kernel) tellMaps(env int, r api.Request) (api.Reply, api.Errno) {
	_, e, code := k.kth(env, r.A[0], r.A[1], api.Read)
	if code != api.OK {
		return only(code)
	}
	var reply api.Reply
	for _, m := range k.table(e).Entries() {
		c, _ := k.lists.Get(e, m.Slot)
		reply.Rows = append(reply.Rows, [8]int{m.V, m.Slot, digit(m.Write), digit(k.dirty(c))})
	}
	return reply, api.OK
}

func (k *Kernel) tellPage(env int, r api.Request) (api.Reply, api.Errno) {
	f, code := k.frameOf(env, r, api.Read)
	if code != api.OK {
		return only(code)
	}
	x, _ := k.frames.Info(f)
	p, _ := k.frames.Page(f)
	reply, _ := tell(digit(x.Dirty), x.Mark, x.Serial)
	reply.Data = mem.Pack(p)
	return reply, api.OK
}

// frameOf: the frame that es, k, slot name.
func (k *Kernel) frameOf(env int, r api.Request, rights int) (int, api.Errno) {
	_, e, code := k.kth(env, r.A[0], r.A[1], rights)
	if code != api.OK {
		return 0, code
	}
	c, code := k.held(e, r.A[2], api.KindFrame, 0)
	return c.Obj, code
}

// digit: a yes or no as rows and replies tell it.
func digit(yes bool) int {
	if yes {
		return 1
	}
	return 0
}
