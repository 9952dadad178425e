package env_test

import (
	"slices"

	"amber/api"
)

// table: the calls of the chapter, which the package and the model below both have.
type table interface {
	Create(parent, serial int, q api.Quota) (int, api.Errno)
	Destroy(e int) ([]int, api.Errno)
	Info(e int) (api.Env, api.Errno)
	SetRegs(e int, r api.Regs) api.Errno
	SetState(e, state, code int) api.Errno
	SetBits(e, bits int) api.Errno
	Notify(e, bits int) api.Errno
	Wait(e int) (int, api.Errno)
	Freeze(e int, on bool) api.Errno
	Pay(e int, q api.Quota) api.Errno
	Refund(e int, q api.Quota) api.Errno
	Children(e int) ([]int, api.Errno)
	Tree(e int) ([]int, api.Errno)
	Inside(root, e int) bool
	Runs(e int) bool
	Find(serial int) int
	Live() []int
}

// parts: frames, environments, extents.
type parts [3]int

func partsOf(q api.Quota) parts { return parts{q.Frames, q.Envs, q.Extents} }

func (p parts) quota() api.Quota { return api.Quota{Frames: p[0], Envs: p[1], Extents: p[2]} }

func (p parts) all(holds func(part, i int) bool) bool {
	for i, n := range p {
		if !holds(n, i) {
			return false
		}
	}
	return true
}

func (p parts) plus(o parts, sign int) parts {
	for i := range p {
		p[i] += sign * o[i]
	}
	return p
}

func (p parts) good() bool { return p.all(func(n, _ int) bool { return n >= 0 && n < 1<<62 }) }

func (p parts) within(o parts) bool { return p.all(func(n, i int) bool { return n <= o[i] }) }

// node: an environment that has its children within it, the last made last.
type node struct {
	num         int
	env         api.Env // Left and Parent are not kept
	quota, paid parts
	kids        []*node
}

// carved is summed up anew each time.
func (n *node) carved() parts {
	var sum parts
	for _, k := range n.kids {
		sum = sum.plus(k.quota, 1).plus(parts{0, 1, 0}, 1)
	}
	return sum
}

func (n *node) left() parts { return n.quota.plus(n.paid, -1).plus(n.carved(), -1) }

// visit goes through a tree in preorder, from above; above: n's parent (nil for the root), stopped: whether n or one above it is flagged.
func (n *node) visit(above *node, stopped bool, see func(n, above *node, stopped bool)) {
	stopped = stopped || n.env.Frozen
	see(n, above, stopped)
	for _, k := range n.kids {
		k.visit(n, stopped, see)
	}
}

// model: the chapter's rules told once more, by a tree of nodes instead of a table.
type model struct {
	root *node
	made []int // every serial, ever
}

func newModel(serial int, q api.Quota) *model {
	root := &node{env: api.Env{Serial: serial}, quota: partsOf(q)}
	for i, n := range root.quota {
		switch {
		case n < 0:
			root.quota[i] = 0
		case n >= 1<<62:
			root.quota[i] = 1<<62 - 1
		}
	}
	return &model{root: root, made: []int{serial}}
}

// find tells the node of a number, and its parent; nil, if there is none.
func (m *model) find(e int) (found, up *node) {
	m.root.visit(nil, false, func(n, above *node, _ bool) {
		if n.num == e {
			found, up = n, above
		}
	})
	return found, up
}

func numbers(n *node) []int {
	var l []int
	n.visit(nil, false, func(n, _ *node, _ bool) { l = append(l, n.num) })
	return l
}

// on does what a call does to one that lives.
func (m *model) on(e int, do func(n *node) api.Errno) api.Errno {
	n, _ := m.find(e)
	if n == nil {
		return api.ErrEnv
	}
	return do(n)
}

func word(n int) bool { return n >= 0 && n < 1<<32 }

func (m *model) Create(parent, serial int, q api.Quota) (int, api.Errno) {
	num, want := -1, partsOf(q)
	code := m.on(parent, func(n *node) api.Errno {
		if !want.good() || serial >= 1<<62 || slices.ContainsFunc(m.made, func(s int) bool { return s >= serial }) {
			return api.ErrArg
		}
		lowest := 0
		for slices.Contains(numbers(m.root), lowest) {
			lowest++
		}
		if !want.plus(parts{0, 1, 0}, 1).within(n.left()) || lowest > 15 {
			return api.ErrNoSpace
		}
		num = lowest
		m.made = append(m.made, serial)
		n.kids = append(n.kids, &node{num: num, env: api.Env{Serial: serial}, quota: want})
		return api.OK
	})
	return num, code
}

func (m *model) Destroy(e int) ([]int, api.Errno) {
	n, above := m.find(e)
	if n == nil {
		return nil, api.ErrEnv
	}
	if above == nil {
		return nil, api.ErrSelf
	}
	above.kids = slices.DeleteFunc(above.kids, func(k *node) bool { return k == n })
	return numbers(n), api.OK
}

func (m *model) Info(e int) (api.Env, api.Errno) {
	n, above := m.find(e)
	if n == nil {
		return api.Env{}, api.ErrEnv
	}
	told := n.env
	told.Parent, told.Quota, told.Left = -1, n.quota.quota(), n.left().quota()
	if above != nil {
		told.Parent = above.num
	}
	return told, api.OK
}

func (m *model) SetRegs(e int, r api.Regs) api.Errno {
	return m.on(e, func(n *node) api.Errno {
		n.env.Regs = r
		return api.OK
	})
}

func (m *model) SetState(e, state, code int) api.Errno {
	return m.on(e, func(n *node) api.Errno {
		if !slices.Contains([]int{0, 1, 2, 3, 4}, state) || !word(code) {
			return api.ErrArg
		}
		n.env.State, n.env.Code = state, code
		return api.OK
	})
}

func (m *model) SetBits(e, bits int) api.Errno {
	return m.on(e, func(n *node) api.Errno {
		if !word(bits) {
			return api.ErrArg
		}
		n.env.Bits = bits
		return api.OK
	})
}

func (m *model) Notify(e, bits int) api.Errno {
	return m.on(e, func(n *node) api.Errno {
		if !word(bits) {
			return api.ErrArg
		}
		all := n.env.Bits | bits
		n.env.Bits = all
		if n.env.State == 2 && all != 0 {
			n.env.State, n.env.Bits = 1, 0
			n.env.Regs.R[0], n.env.Regs.R[1] = 0, uint32(all)
		}
		return api.OK
	})
}

func (m *model) Wait(e int) (int, api.Errno) {
	bits := 0
	code := m.on(e, func(n *node) api.Errno {
		bits = n.env.Bits
		n.env.Bits = 0
		if bits == 0 {
			n.env.State = 2
		}
		return api.OK
	})
	return bits, code
}

func (m *model) Freeze(e int, on bool) api.Errno {
	return m.on(e, func(n *node) api.Errno {
		n.env.Frozen = on
		return api.OK
	})
}

func (m *model) Pay(e int, q api.Quota) api.Errno {
	return m.on(e, func(n *node) api.Errno {
		if !partsOf(q).good() {
			return api.ErrArg
		}
		if !partsOf(q).within(n.left()) {
			return api.ErrNoSpace
		}
		n.paid = n.paid.plus(partsOf(q), 1)
		return api.OK
	})
}

func (m *model) Refund(e int, q api.Quota) api.Errno {
	return m.on(e, func(n *node) api.Errno {
		if !partsOf(q).good() || !partsOf(q).within(n.paid) {
			return api.ErrArg
		}
		n.paid = n.paid.plus(partsOf(q), -1)
		return api.OK
	})
}

func (m *model) Children(e int) ([]int, api.Errno) {
	var l []int
	code := m.on(e, func(n *node) api.Errno {
		for _, k := range n.kids {
			l = append(l, k.num)
		}
		return api.OK
	})
	return l, code
}

func (m *model) Tree(e int) ([]int, api.Errno) {
	var l []int
	code := m.on(e, func(n *node) api.Errno {
		l = numbers(n)
		return api.OK
	})
	return l, code
}

func (m *model) Inside(root, e int) bool {
	l, _ := m.Tree(root)
	return slices.Contains(l, e)
}

func (m *model) Runs(e int) bool {
	runs := false
	m.root.visit(nil, false, func(n, _ *node, stopped bool) {
		if n.num == e {
			runs = n.env.State == 1 && !stopped
		}
	})
	return runs
}

func (m *model) Find(serial int) int {
	found := -1
	m.root.visit(nil, false, func(n, _ *node, _ bool) {
		if n.env.Serial == serial {
			found = n.num
		}
	})
	return found
}

func (m *model) Live() []int {
	l := numbers(m.root)
	slices.Sort(l)
	return l
}
