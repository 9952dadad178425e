package store_test

import (
	"slices"

	"amber/api"
	"amber/gate"
)

// keeper: the calls of the chapter on a store, which the package and the model both have.
type keeper interface {
	Serves(k *gate.Kernel, env int) bool
	Gen() int
	Extents() [][]int
	Chain() ([][]byte, api.Errno)
	Commit(image []byte, full bool) api.Errno
	Close() api.Errno
}

// model: the chapter once more, on all that a kernel's state tells. Its tokens are home's and, behind it, the chain's, image by image.
type model struct {
	k           *gate.Kernel
	env, serial int
	open        bool
	gen         int
	home        token
	lengths     []int
	chain       [][]token
}

// token: a slot, the extent that was claimed at it, and that one's serial.
type token struct{ slot, extent, serial int }

// livingSerial: 0, if no environment of that number lives.
func livingSerial(k *gate.Kernel, env int) int {
	for _, e := range k.State().Envs {
		if e.Num == env {
			return e.Env.Serial
		}
	}
	return 0
}

func modelOpen(k *gate.Kernel, env, home int) (keeper, api.Errno) {
	if k == nil {
		return nil, api.ErrArg
	}
	m := &model{k: k, env: env, serial: livingSerial(k, env), open: true}
	if m.serial == 0 {
		return nil, api.ErrEnv
	}
	if !slices.Contains(upTo(0, 31), home) {
		return nil, api.ErrExtent
	}
	tokens, code := m.claim([]int{home})
	if code != api.OK {
		return nil, code
	}
	m.home = tokens[0]
	var sectors [2][]byte
	for i := range sectors {
		got := k.Call(env, request(api.NatRead, m.home.slot, i))
		if got.Code != api.OK {
			m.drop(tokens)
			return nil, got.Code
		}
		sectors[i] = got.Data
	}
	gen, images := counts(home, sectors)
	m.gen = gen
	for _, im := range images {
		more, code := m.claim(im.extents)
		if code != api.OK {
			m.drop(m.tokens())
			return nil, code
		}
		m.chain = append(m.chain, more)
		m.lengths = append(m.lengths, im.length)
	}
	return m, api.OK
}

// claim: all of these (-1: the lowest free one) or none.
func (m *model) claim(numbers []int) ([]token, api.Errno) {
	var got []token
	for _, n := range numbers {
		r := m.k.Call(m.env, request(api.NatClaim, n))
		if r.Code != api.OK {
			m.drop(got)
			return nil, r.Code
		}
		got = append(got, token{r.V[0], r.V[1], m.k.SerialOf(m.env, r.V[0])})
	}
	return got, api.OK
}

func (m *model) drop(l []token) {
	for _, x := range l {
		m.k.Call(m.env, request(api.CallDrop, x.slot))
	}
}

func (m *model) tokens() []token { return append([]token{m.home}, slices.Concat(m.chain...)...) }

// at: what lies at a token's slot, if it is an extent and the one that was claimed.
func (m *model) at(x token) (api.Cap, bool) {
	for _, c := range m.k.State().Caps {
		h := c.Held
		if h.Env == m.env && h.Slot == x.slot && h.Cap.Kind == api.KindExtent && h.Cap.Serial == x.serial {
			return h.Cap, true
		}
	}
	return api.Cap{}, false
}

func (m *model) allGood() bool {
	for _, x := range m.tokens() {
		if c, still := m.at(x); !still || c.Rights%4 != 3 {
			return false
		}
	}
	return true
}

func (m *model) Serves(k *gate.Kernel, env int) bool {
	if !m.open || k != m.k || env != m.env {
		return false
	}
	now := livingSerial(k, env)
	return now == 0 || now == m.serial
}

func (m *model) Gen() int {
	if !m.open {
		return 0
	}
	return m.gen
}

func (m *model) Extents() [][]int {
	var l [][]int
	for _, on := range m.chain {
		var numbers []int
		for _, x := range on {
			numbers = append(numbers, x.extent)
		}
		l = append(l, numbers)
	}
	return l
}

func (m *model) lost() api.Errno {
	if !m.open {
		return api.ErrArg
	}
	if livingSerial(m.k, m.env) != m.serial {
		return api.ErrEnv
	}
	return api.OK
}

// Chain reads all sectors of all extents, and takes what the lengths tell.
func (m *model) Chain() ([][]byte, api.Errno) {
	if code := m.lost(); code != api.OK {
		return nil, code
	}
	if !m.allGood() {
		return nil, api.ErrNoCap
	}
	var l [][]byte
	for i, on := range m.chain {
		var all []byte
		for _, x := range on {
			for sector := range 32 {
				got := m.k.Call(m.env, request(api.NatRead, x.slot, sector))
				if got.Code != api.OK {
					return nil, got.Code
				}
				all = append(all, got.Data...)
			}
		}
		l = append(l, all[:m.lengths[i]])
	}
	return l, api.OK
}

func (m *model) refuses(image []byte, full bool) api.Errno {
	if code := m.lost(); code != api.OK {
		return code
	}
	if n := len(image); n == 0 || n > 32768 {
		return api.ErrSize
	}
	if !full && len(m.chain) == 0 {
		return api.ErrState
	}
	if !full && len(m.chain) == 5 {
		return api.ErrNoSpace
	}
	if m.gen == 1<<32-1 {
		return api.ErrNoSpace
	}
	if !m.allGood() {
		return api.ErrNoCap
	}
	return api.OK
}

// writes: the calls of a commit that may be refused behind the claims, in their order.
func (m *model) writes(image []byte, on []token, next []byte) []api.Request {
	var l []api.Request
	padded := append(slices.Clone(image), make([]byte, 127)...)
	for i := 0; i*128 < len(image); i++ {
		l = append(l, api.Request{Call: api.NatWrite, A: [6]int{on[i/32].slot, i % 32}, Data: padded[i*128 : i*128+128]})
	}
	superblock := api.Request{Call: api.NatWrite, A: [6]int{m.home.slot, (m.gen + 1) % 2}, Data: next}
	return append(l, request(api.NatFlush), superblock, request(api.NatFlush))
}

func (m *model) Commit(image []byte, full bool) api.Errno {
	if code := m.refuses(image, full); code != api.OK {
		return code
	}
	var numbers []int
	for at := 0; at < len(image); at += 4096 {
		numbers = append(numbers, -1)
	}
	on, code := m.claim(numbers)
	if code != api.OK {
		return code
	}
	next := *m
	old := slices.Concat(m.chain...)
	if full {
		next.chain, next.lengths = nil, nil
	}
	next.gen++
	next.chain = append(slices.Clone(next.chain), on)
	next.lengths = append(slices.Clone(next.lengths), len(image))
	var images []entry
	for i, extents := range next.Extents() {
		images = append(images, entry{next.lengths[i], extents})
	}
	for _, r := range m.writes(image, on, super(next.gen, images...)) {
		if got := m.k.Call(m.env, r); got.Code != api.OK {
			m.drop(on)
			return got.Code
		}
	}
	if full {
		m.drop(old)
	}
	*m = next
	return api.OK
}

func (m *model) Close() api.Errno {
	if !m.open {
		return api.ErrArg
	}
	for _, x := range m.tokens() {
		if _, still := m.at(x); still && livingSerial(m.k, m.env) == m.serial {
			m.drop([]token{x})
		}
	}
	*m = model{}
	return api.OK
}
