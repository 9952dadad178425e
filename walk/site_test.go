package walk_test

import (
	"reflect"
	"slices"
	"strings"
	"testing"

	"amber/api"
	"amber/disk"
	"amber/gate"
)

// What the tests share: kernels, trees in them, and acts by fixed dice.

var none = api.Place{Env: -1, Slot: -1}

func boot(t *testing.T, serial int) *gate.Kernel {
	t.Helper()
	k := gate.Boot(disk.New(), serial)
	if k == nil {
		t.Fatal("no kernel")
	}
	return k
}

func request(call int, a ...int) api.Request {
	r := api.Request{Call: call}
	copy(r.A[:], a)
	return r
}

// do makes a call that must be done; its V0.
func do(t *testing.T, k *gate.Kernel, env, call int, a ...int) int {
	t.Helper()
	got := k.Call(env, request(call, a...))
	if got.Code != api.OK {
		t.Fatalf("%d: %s %v: %d", env, gate.Name(call), a, got.Code)
	}
	return got.V[0]
}

// spawn makes a child; the slot of its parent's capability on it, and its number.
func spawn(t *testing.T, k *gate.Kernel, parent, f, e, x int) (int, int) {
	t.Helper()
	slot := do(t, k, parent, api.CallSpawn, f, e, x)
	serial := k.SerialOf(parent, slot)
	for _, s := range k.State().Envs {
		if s.Env.Serial == serial {
			return slot, s.Num
		}
	}
	t.Fatalf("no environment of serial %d", serial)
	return 0, 0
}

// unchanged: the state is what it was.
func unchanged(t *testing.T, where string, k *gate.Kernel, before api.State) {
	t.Helper()
	if now := k.State(); !reflect.DeepEqual(now, before) {
		t.Errorf("%s: the state is %+v, want %+v", where, now, before)
	}
}

// same: a nil list and an empty one are the same.
func same(a, b api.Forest) bool {
	return slices.Equal(a.Envs, b.Envs) && slices.Equal(a.Caps, b.Caps) && slices.Equal(a.Maps, b.Maps) && slices.Equal(a.Pages, b.Pages) && slices.Equal(a.Outs, b.Outs)
}

// dice: numbers by a fixed rule, so that each run of the test is the same.
type dice uint64

func (d *dice) below(n int) int {
	*d = *d*6364136223846793005 + 1442695040888963407
	return int(uint64(*d)>>33) % n
}

func (d *dice) of(l ...int) int { return l[d.below(len(l))] }

func (d *dice) word() int { return d.of(0, 1, 7, 1<<31, 1<<32-1, d.below(1<<31)) }

// site: a tree in a kernel, known by its root. Its environments are named by their places, so that one act can be done at two sites.
type site struct {
	k    *gate.Kernel
	root int
}

func (s site) tree() []int {
	tree, _ := s.k.Tree(s.root)
	return tree
}

// act: a call in the name of the environment at a place, or, with the number store, a word stored by it.
type act struct {
	place int
	r     api.Request
}

const store = -1

func (a act) do(s site) api.Reply {
	env := s.tree()[a.place]
	if a.r.Call == store {
		return api.Reply{Code: s.k.Store(env, uint32(a.r.A[0]), uint32(a.r.A[1]))}
	}
	return s.k.Call(env, a.r)
}

// asked: what the calls that change something ask for, by the names that chapter 11 gives their arguments.
var asked = map[int]string{
	store:           "addr word",
	api.CallExit:    "word",
	api.CallAlloc:   "",
	api.CallMap:     "v frame flag",
	api.CallUnmap:   "v",
	api.CallDerive:  "slot rights",
	api.CallGrant:   "slot es rights",
	api.CallDrop:    "slot",
	api.CallRevoke:  "slot",
	api.CallSpawn:   "f e e",
	api.CallStart:   "es word",
	api.CallNotify:  "es word",
	api.CallWait:    "",
	api.CallKill:    "es",
	api.CallRead:    "extent sector v",
	api.CallWrite:   "extent sector v",
	api.CallProtect: "v flag",
	api.CallMapIn:   "es v any flag",
	api.CallSetReg:  "es register word",
	api.NatClean:    "es k any",
	api.NatFreeze:   "es k flag",
	api.NatNew:      "es k f e e",
	api.NatSet:      "es k state word word",
	api.NatFill:     "frame",
	api.NatPlace:    "slot es k at rights",
	api.NatCopy:     "es k any k at rights",
	api.NatSelf:     "es k k at rights",
	api.NatMapIn:    "es k v any flag",
	api.NatClaim:    "lowest",
}

// builders: the calls that build up, which come more often than those that tear down.
var builders = []int{
	store, store, api.CallAlloc, api.CallMap, api.CallDerive, api.CallGrant, api.CallSpawn, api.CallMapIn, api.NatFill, api.CallRead,
	api.NatNew, api.NatNew, api.NatSet, api.NatPlace, api.NatPlace, api.NatCopy, api.NatCopy, api.NatSelf, api.NatMapIn, api.NatMapIn, api.NatClaim, api.CallSetReg, api.NatFreeze, api.NatClean,
}

// calls: all of asked, in a fixed order.
func calls() []int {
	var l []int
	for call := range asked {
		l = append(l, call)
	}
	slices.Sort(l)
	return l
}

// act: by the dice, mostly one that may well be done at the site.
func (d *dice) act(s site) act {
	tree := s.tree()
	a := act{place: d.below(len(tree))}
	if d.below(3) == 0 {
		a.place = 0
	}
	call := d.of(builders...)
	if d.below(4) == 0 {
		call = d.of(calls()...)
	}
	a.r.Call = call
	c := chooser{d: d, k: s.k, env: tree[a.place], other: tree[a.place]}
	for i, name := range strings.Fields(asked[call]) {
		a.r.A[i] = c.argument(name)
	}
	size := map[int]int{api.NatSet: 36, api.NatFill: 128}[call]
	for range size {
		a.r.Data = append(a.r.Data, byte(d.below(256)))
	}
	return a
}

// chooser: picks the arguments of a call of env's one by one; other is the environment that those before it name.
type chooser struct {
	d          *dice
	k          *gate.Kernel
	env, other int
}

func (c *chooser) argument(name string) int {
	d := c.d
	switch name {
	case "slot":
		return c.slot(c.env, 0)
	case "frame":
		return c.slot(c.env, api.KindFrame)
	case "extent":
		return c.slot(c.env, api.KindExtent)
	case "es":
		return c.es()
	case "any":
		return c.slot(c.other, d.of(0, api.KindFrame, api.KindFrame))
	case "k":
		return c.place()
	case "v":
		return d.of(0, 1, 2, 3, 15, c.page())
	case "addr":
		return c.page()*api.PageWords + d.below(api.PageWords)
	case "flag":
		return d.below(2)
	case "rights":
		return d.of(15, 15, 15, 7, 7, 5, 3, 1, d.below(16))
	case "at":
		return d.of(-1, -1, d.below(8), d.below(48))
	case "f":
		return d.below(7)
	case "e":
		return d.below(3)
	case "state":
		return d.below(5)
	case "register":
		return d.below(9)
	case "sector":
		return d.below(32)
	case "lowest":
		return -1
	}
	return d.word()
}

// held: the capabilities of a list of that kind (0: of any).
func (c *chooser) held(env, kind int) []api.Held {
	var l []api.Held
	for _, x := range c.k.State().Caps {
		if x.Held.Env == env && (kind == 0 || x.Held.Cap.Kind == kind) {
			l = append(l, x.Held)
		}
	}
	return l
}

func (c *chooser) slot(env, kind int) int {
	l := c.held(env, kind)
	if len(l) == 0 {
		return c.d.below(48)
	}
	return l[c.d.below(len(l))].Slot
}

// page: one that is mapped, where there is one.
func (c *chooser) page() int {
	var l []int
	for _, m := range c.k.State().Maps {
		if m.Env == c.env {
			l = append(l, m.V)
		}
	}
	if len(l) == 0 {
		return c.d.below(api.MaxPages)
	}
	return c.d.of(l...)
}

func (c *chooser) es() int {
	l := c.held(c.env, api.KindEnv)
	if len(l) == 0 || c.d.below(3) == 0 {
		return -1
	}
	h := l[c.d.below(len(l))]
	c.other = h.Cap.Obj
	return h.Slot
}

// place: one of the tree that was named, and now and then the one behind it.
func (c *chooser) place() int {
	tree, _ := c.k.Tree(c.other)
	if c.d.below(20) == 0 {
		return len(tree)
	}
	place := c.d.below(len(tree))
	c.other = tree[place]
	return place
}

// planted: a site below environment 0, in a slot of its list, with environments that hold one another and share frames.
func planted(t *testing.T, k *gate.Kernel, seed int) (site, int) {
	t.Helper()
	slot, root := spawn(t, k, 0, 24, 4, 6)
	s := site{k, root}
	d := dice(seed)
	do(t, k, root, api.NatNew, -1, 0, 7, 1, 2)
	for range 3 + d.below(4) {
		k.Call(root, request(api.NatNew, -1, d.below(len(s.tree())), d.of(2, 3), 0, d.below(2)))
	}
	size := len(s.tree())
	for n := range 2 * size {
		env := s.tree()[n%size]
		k.Call(env, request(api.CallAlloc))
		do(t, k, root, api.NatSelf, -1, d.below(size), n%size, -1, d.of(15, 7, 3))
		k.Call(root, request(api.NatCopy, -1, n%size, d.below(4), d.below(size), -1, d.of(15, 7, 3)))
		k.Call(env, request(api.CallMap, n%4, d.below(4), d.below(2)))
	}
	return s, slot
}

// entries: the places of all capabilities of a kernel on environments: what a walk can begin with.
func entries(k *gate.Kernel) []api.Place {
	var l []api.Place
	for _, c := range k.State().Caps {
		if c.Held.Cap.Kind == api.KindEnv {
			l = append(l, api.Place{Env: c.Held.Env, Slot: c.Held.Slot})
		}
	}
	return l
}
