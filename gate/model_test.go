package gate_test

import (
	"cmp"
	"encoding/binary"
	"slices"
	"strings"

	"amber/api"
	"amber/disk"
)

// thing: a frame, an environment or an extent. It lives while someone speaks of it: a frame or an extent while a capability names it, an environment till it is killed.
type thing struct {
	kind, num, serial int
	dead              bool

	dirty bool
	mark  int
	words [32]uint32

	up                *thing
	state, code, bits int
	frozen            bool
	regs              [9]uint32
	quota             [3]int
}

// right: a capability; up is what it was derived from, gone or not.
type right struct {
	holder *thing
	slot   int
	on     *thing
	rights int
	up     *right
	gone   bool
}

type mapping struct {
	env   *thing
	v     int
	by    *right
	write bool
}

// model: the kernel told as a heap of things that name each other. It counts nothing: what is left, how many holds there are and which numbers are free is looked up each time, and what nothing leads to any more is swept away.
type model struct {
	next   int
	envs   []*thing // by their making
	rights []*right
	maps   []*mapping
	d      *disk.Disk
}

func newModel(d *disk.Disk, serial int) *model {
	return &model{next: serial + 1, envs: []*thing{{kind: 2, serial: serial, quota: [3]int{64, 15, 32}}}, d: d}
}

// specs: the arguments of each call, by the names that the chapter gives them.
var specs = []string{
	0: "", "code", "", "v slot write", "v", "slot rights", "slot es rights", "slot", "slot", "f e x", "es pc", "es bits", "", "es", "value", "slot",
	"slot sector v", "slot sector v", "v write", "es v slot write", "", "es", "es r value", "es r", "",
	32: "es", "es k", "es k", "es k", "es k slot", "es k slot", "es k on", "es k f e x", "es k state code bits", "slot", "slot es k at rights",
	"es k slot k2 at rights", "es k k2 at rights", "es k v slot write", "n", "slot sector", "slot sector", "", "",
}

// limits: the bounds of the arguments that have some, by name.
var limits = map[string][2]int{
	"write": {0, 1}, "on": {0, 1}, "rights": {0, 15}, "at": {-1, 47}, "code": {0, 1<<32 - 1}, "bits": {0, 1<<32 - 1}, "value": {0, 1<<32 - 1}, "pc": {0, 1<<32 - 1},
	"f": {0, 1 << 20}, "e": {0, 1 << 20}, "x": {0, 1 << 20}, "state": {0, 4}, "r": {0, 8},
}

// sizes: how many bytes of Data a call asks for.
var sizes = map[int]int{40: 36, 41: 128, 48: 128}

// unless refuses the call where a thing does not hold.
func unless(ok bool, code api.Errno) {
	if !ok {
		panic(code)
	}
}

// Guest and Call have their refusals thrown from the depth.
func (m *model) Guest(env int, r api.Request) api.Reply {
	if r.Call > 24 {
		r.Call = 25
	}
	return m.Call(env, r)
}

func (m *model) Call(env int, r api.Request) (reply api.Reply) {
	defer func() {
		if code := recover(); code != nil {
			reply = api.Reply{Code: code.(api.Errno)}
		}
	}()
	me := m.env(env)
	unless(me != nil, api.ErrEnv)
	unless(r.Call >= 0 && r.Call <= 24 || r.Call >= 32 && r.Call <= 50, api.ErrCall)
	a := map[string]int{}
	for i, name := range strings.Fields(specs[r.Call]) {
		a[name] = r.A[i]
		if l, has := limits[name]; has {
			unless(r.A[i] >= l[0] && r.A[i] <= l[1], api.ErrArg)
		}
	}
	if n, has := sizes[r.Call]; has {
		unless(len(r.Data) == n, api.ErrSize)
	}
	if r.Call < 32 {
		m.guest(me, r.Call, a, &reply)
	} else {
		m.native(me, r, a, &reply)
	}
	m.sweep()
	return reply
}

// guest: the calls 0 to 24.
func (m *model) guest(me *thing, call int, a map[string]int, out *api.Reply) {
	named := func(rights int) *thing { return m.slot(me, a["es"], 2, rights).on }
	switch call {
	case 1:
		unless(me.state == 1, api.ErrState)
		me.state, me.code = 3, a["code"]
	case 2:
		m.room(me, -1, [3]int{1, 0, 0})
		out.V[0] = m.lay(me, -1, m.make(1), 15, nil)
	case 3:
		m.lead(me, a)
	case 4:
		x := m.page(me, a["v"])
		m.maps = slices.DeleteFunc(m.maps, func(y *mapping) bool { return x == y })
	case 5:
		c := m.slot(me, a["slot"], 0, 4|a["rights"])
		out.V[0] = m.derive(c, me, -1, a["rights"])
	case 6:
		c := m.slot(me, a["slot"], 0, 4|a["rights"])
		m.derive(c, named(2), -1, a["rights"])
	case 7:
		m.slot(me, a["slot"], 0, 0).gone = true
	case 8:
		c := m.slot(me, a["slot"], 0, 0)
		for _, x := range m.rights {
			x.gone = x != c && slices.Contains(line(x), c)
		}
	case 9:
		m.room(me, -1, [3]int{a["f"], a["e"] + 1, a["x"]})
		out.V[0] = m.lay(me, -1, m.child(me, a), 15, nil)
	case 10:
		x := named(2)
		unless(x.state == 0, api.ErrState)
		x.state, x.regs[8] = 1, uint32(a["pc"])
	case 11:
		x := named(2)
		x.bits |= a["bits"]
		if x.state == 2 && x.bits != 0 {
			x.state, x.regs[0], x.regs[1], x.bits = 1, 0, uint32(x.bits), 0
		}
	case 12:
		unless(me.state == 1, api.ErrState)
		out.V[0] = me.bits
		if me.bits == 0 {
			me.state = 2
		}
		me.bits = 0
	case 13:
		x := named(8)
		unless(x != me && slices.Contains(m.tree(me), x), api.ErrSelf)
		for _, y := range m.tree(x) {
			y.dead = true
		}
	case 15:
		c := m.slot(me, a["slot"], 0, 0)
		out.V = [4]int{c.on.kind, c.rights}
	case 16, 17:
		m.transfer(me, call == 16, a)
	case 18:
		x := m.page(me, a["v"])
		unless(a["write"] == 0 || x.by.rights&2 != 0, api.ErrRights)
		x.write = a["write"] == 1
	case 19:
		m.lead(named(2), a)
	case 20:
		left := m.left(me)
		copy(out.V[:], left[:])
	case 21:
		x := named(1)
		out.V = [4]int{x.state, x.code}
	case 22:
		named(2).regs[a["r"]] = uint32(a["value"])
	case 23:
		out.V[0] = int(named(1).regs[a["r"]])
	case 24:
		unless(false, api.ErrState)
	}
}

// native: the calls 32 to 50.
func (m *model) native(me *thing, r api.Request, a map[string]int, out *api.Reply) {
	var tree []*thing
	at := func(place int) *thing {
		unless(place >= 0 && place < len(tree), api.ErrArg)
		return tree[place]
	}
	open := func(rights int) {
		root := me
		if a["es"] != -1 {
			root = m.slot(me, a["es"], 2, rights).on
		}
		tree = m.tree(root)
	}
	kth := func(rights int) *thing { open(rights); return at(a["k"]) }
	switch r.Call {
	case 32:
		open(1)
		out.V[0] = len(tree)
	case 33:
		x := kth(1)
		out.V = [4]int{slices.Index(tree, x.up), 48 - len(m.list(x))}
		left, regs := m.left(x), [8]int{}
		for i := range regs {
			regs[i] = int(x.regs[i])
		}
		out.Rows = [][8]int{{x.state, x.code, x.bits, bit(x.frozen), x.quota[0], x.quota[1], x.quota[2], x.serial}, regs, {int(x.regs[8]), left[0], left[1], left[2]}}
	case 34:
		for _, c := range m.list(kth(1)) {
			row := [8]int{c.slot, c.on.kind, c.rights, c.on.serial, slices.Index(tree, c.on), -1, -1, bit(c.on.dirty)}
			for _, up := range line(c)[1:] {
				if slices.Contains(tree, up.holder) {
					row[5], row[6] = slices.Index(tree, up.holder), up.slot
					break
				}
			}
			out.Rows = append(out.Rows, row)
		}
	case 35:
		x := kth(1)
		for v := range 16 {
			for _, p := range m.maps {
				if p.env == x && p.v == v {
					out.Rows = append(out.Rows, [8]int{v, p.by.slot, bit(p.write), bit(p.by.on.dirty)})
				}
			}
		}
	case 36:
		f := m.slot(kth(1), a["slot"], 1, 0).on
		out.V, out.Data = [4]int{bit(f.dirty), f.mark, f.serial}, f.bytes()
	case 37:
		f := m.slot(kth(2), a["slot"], 1, 0).on
		out.V[1] = bit(f.dirty)
		if f.dirty {
			f.dirty, f.mark = false, m.serial()
		}
		out.V[0] = f.mark
	case 38:
		x := kth(2)
		out.V[0], x.frozen = bit(x.frozen), a["on"] == 1
	case 39:
		x := kth(2)
		m.room(x, noSlot, [3]int{a["f"], a["e"] + 1, a["x"]})
		out.V[0] = a["k"] + len(m.tree(x))
		m.child(x, a)
	case 40:
		x := kth(2)
		x.state, x.code, x.bits = a["state"], a["code"], a["bits"]
		for i := range x.regs {
			x.regs[i] = binary.LittleEndian.Uint32(r.Data[4*i:])
		}
	case 41:
		m.slot(me, a["slot"], 1, 2).on.fill(r.Data)
	case 42:
		c := m.slot(me, a["slot"], 0, 4|a["rights"])
		out.V[0] = m.derive(c, kth(2), a["at"], a["rights"])
	case 43:
		x := kth(2)
		y := at(a["k2"])
		out.V[0] = m.derive(m.slot(x, a["slot"], 0, 4|a["rights"]), y, a["at"], a["rights"])
	case 44:
		x := kth(8 | a["rights"])
		y := at(a["k2"])
		m.room(y, a["at"], [3]int{})
		out.V[0] = m.lay(y, a["at"], x, a["rights"], nil)
	case 45:
		m.lead(kth(2), a)
	case 46:
		unless(a["n"] >= -1 && a["n"] <= 31, api.ErrExtent)
		unless(a["n"] == -1 || slices.Contains(m.free(3, 32), a["n"]), api.ErrClaimed)
		m.room(me, -1, [3]int{0, 0, 1})
		x := m.make(3)
		if a["n"] != -1 {
			x.num = a["n"]
		}
		out.V = [4]int{m.lay(me, -1, x, 15, nil), x.num}
	case 47:
		out.Data = m.sector(m.slot(me, a["slot"], 3, 1).on, a["sector"])
	case 48:
		x := m.slot(me, a["slot"], 3, 2).on
		unless(a["sector"] >= 0 && a["sector"] <= 31, api.ErrSector)
		unless(m.d.Write(32*x.num+a["sector"], r.Data) == api.OK, api.ErrDown)
	case 49:
		unless(m.d.Flush() == api.OK, api.ErrDown)
	case 50:
		left := m.left(me)
		out.V = [4]int{left[0], left[1], left[2], 48 - len(m.list(me))}
	}
}

// noSlot: no slot is asked for.
const noSlot = -2

// room: what is left, then the slots.
func (m *model) room(to *thing, at int, price [3]int) {
	unless(at < 0 || m.held(to, at) == nil, api.ErrTaken)
	left := m.left(to)
	for i := range price {
		unless(price[i] <= left[i], api.ErrNoSpace)
	}
	unless(at != -1 || len(m.list(to)) < 48, api.ErrNoSpace)
}

func (m *model) derive(from *right, to *thing, at, rights int) int {
	m.room(to, at, [4][3]int{1: {1, 0, 0}, 3: {0, 0, 1}}[from.on.kind])
	return m.lay(to, at, from.on, rights, from)
}

// lay: of the slots that are not held the first, if none is named.
func (m *model) lay(to *thing, at int, on *thing, rights int, up *right) int {
	for slot := 0; at == -1; slot++ {
		if m.held(to, slot) == nil {
			at = slot
		}
	}
	m.rights = append(m.rights, &right{holder: to, slot: at, on: on, rights: rights, up: up})
	return at
}

func (m *model) serial() int {
	m.next++
	return m.next - 1
}

// make: a frame or an extent.
func (m *model) make(kind int) *thing {
	return &thing{kind: kind, num: m.free(kind, 64)[0], serial: m.serial(), dirty: kind == 1}
}

func (m *model) child(up *thing, a map[string]int) *thing {
	x := &thing{kind: 2, num: m.free(2, 16)[0], serial: m.serial(), up: up, quota: [3]int{a["f"], a["e"], a["x"]}}
	m.envs = append(m.envs, x)
	return x
}

// free: the numbers of a kind that no thing has.
func (m *model) free(kind, most int) []int {
	taken := map[int]int{}
	for _, x := range m.things(kind) {
		taken[x.num]++
	}
	var out []int
	for n := range most {
		if taken[n] == 0 {
			out = append(out, n)
		}
	}
	return out
}

// things: those of a kind that live, by number.
func (m *model) things(kind int) []*thing {
	var out []*thing
	if kind == 2 {
		out = slices.Clone(m.envs)
	}
	for _, c := range m.rights {
		if c.on.kind == kind && !slices.Contains(out, c.on) {
			out = append(out, c.on)
		}
	}
	slices.SortFunc(out, func(a, b *thing) int { return cmp.Compare(a.num, b.num) })
	return out
}

func (m *model) lead(env *thing, a map[string]int) {
	c := m.slot(env, a["slot"], 1, 1+2*a["write"])
	unless(a["v"] >= 0 && a["v"] <= 15, api.ErrPage)
	for _, x := range m.maps {
		unless(x.env != env || x.v != a["v"], api.ErrMapped)
	}
	m.maps = append(m.maps, &mapping{env, a["v"], c, a["write"] == 1})
}

func (m *model) page(env *thing, v int) *mapping {
	unless(v >= 0 && v <= 15, api.ErrPage)
	for _, x := range m.maps {
		if x.env == env && x.v == v {
			return x
		}
	}
	panic(api.ErrUnmapped)
}

func (m *model) sector(x *thing, i int) []byte {
	unless(i >= 0 && i <= 31, api.ErrSector)
	b, code := m.d.Read(32*x.num + i)
	unless(code == api.OK, api.ErrDown)
	return b
}

func (m *model) transfer(me *thing, in bool, a map[string]int) {
	x := m.slot(me, a["slot"], 3, 2-bit(in)).on
	unless(a["sector"] >= 0 && a["sector"] <= 31, api.ErrSector)
	p := m.page(me, a["v"])
	unless(p.write || !in, api.ErrReadOnly)
	if in {
		p.by.on.fill(m.sector(x, a["sector"]))
		return
	}
	unless(m.d.Write(32*x.num+a["sector"], p.by.on.bytes()) == api.OK, api.ErrDown)
}

func (x *thing) bytes() []byte {
	var b []byte
	for _, w := range x.words {
		b = binary.LittleEndian.AppendUint32(b, w)
	}
	return b
}

func (x *thing) fill(b []byte) {
	for i := range x.words {
		x.words[i] = binary.LittleEndian.Uint32(b[4*i:])
	}
	x.dirty = true
}

// line: a capability and its ancestors.
func line(c *right) []*right {
	out := []*right{c}
	for up := c.up; up != nil; up = up.up {
		if !up.gone {
			out = append(out, up)
		}
	}
	return out
}

// tree: by the order of making, each behind the tree of the one ahead of it.
func (m *model) tree(root *thing) []*thing {
	out := []*thing{root}
	for _, x := range m.envs {
		if x.up == root {
			out = append(out, m.tree(x)...)
		}
	}
	return out
}

func (m *model) left(x *thing) [3]int {
	left := x.quota
	for _, c := range m.list(x) {
		left[0] -= bit(c.on.kind == 1)
		left[2] -= bit(c.on.kind == 3)
	}
	for _, y := range m.envs {
		if y.up == x {
			left = [3]int{left[0] - y.quota[0], left[1] - 1 - y.quota[1], left[2] - y.quota[2]}
		}
	}
	return left
}

// sweep: what nothing leads to any more is forgotten.
func (m *model) sweep() {
	m.envs = slices.DeleteFunc(m.envs, func(x *thing) bool { return x.dead })
	for _, c := range m.rights {
		c.gone = c.gone || c.holder.dead || c.on.dead
	}
	m.rights = slices.DeleteFunc(m.rights, func(c *right) bool { return c.gone })
	m.maps = slices.DeleteFunc(m.maps, func(x *mapping) bool { return x.by.gone })
}

func (m *model) env(n int) *thing {
	for _, x := range m.envs {
		if x.num == n {
			return x
		}
	}
	return nil
}

// list: what an environment holds, by slot.
func (m *model) list(x *thing) []*right {
	var out []*right
	for _, c := range m.rights {
		if c.holder == x {
			out = append(out, c)
		}
	}
	slices.SortFunc(out, func(a, b *right) int { return cmp.Compare(a.slot, b.slot) })
	return out
}

func (m *model) held(x *thing, slot int) *right {
	for _, c := range m.rights {
		if c.holder == x && c.slot == slot {
			return c
		}
	}
	return nil
}

func (m *model) slot(x *thing, slot, kind, rights int) *right {
	c := m.held(x, slot)
	unless(c != nil, api.ErrNoCap)
	unless(kind == 0 || c.on.kind == kind, api.ErrKind)
	unless(c.rights&rights == rights, api.ErrRights)
	return c
}

func bit(yes bool) int {
	if yes {
		return 1
	}
	return 0
}
