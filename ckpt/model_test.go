package ckpt_test

import (
	"slices"

	"amber/api"
	"amber/chain"
	"amber/gate"
	"amber/image"
	"amber/store"
	"amber/walk"
)

// model: the chapter once more: refusals and classes by all that a kernel's state tells, flags and cleaning by calls of its own, images put together by hand.
type model struct {
	k         *gate.Kernel
	s         *store.Store
	env, slot int
	tree      []int
}

func modelCheckpoint(k *gate.Kernel, s *store.Store, env, slot int, full bool) (api.Saved, api.Errno) {
	m := &model{k: k, s: s, env: env, slot: slot}
	if code := m.refuses(); code != api.OK {
		return api.Saved{}, code
	}
	flagged := flag(k, m.tree[0])
	m.freeze(true)
	saved, code := m.save(full)
	m.freeze(flagged)
	return saved, code
}

func (m *model) freeze(on bool) {
	n := 0
	if on {
		n = 1
	}
	m.k.Call(m.env, request(api.NatFreeze, m.slot, 0, n))
}

// refuses: P17.1.
func (m *model) refuses() api.Errno {
	if m.k == nil || m.s == nil || !m.s.Serves(m.k, m.env) {
		return api.ErrArg
	}
	state := m.k.State()
	if !slices.ContainsFunc(state.Envs, func(e api.EnvState) bool { return e.Num == m.env }) {
		return api.ErrEnv
	}
	at := slices.IndexFunc(state.Caps, func(c api.CapState) bool { return c.Held.Env == m.env && c.Held.Slot == m.slot })
	if at < 0 {
		return api.ErrNoCap
	}
	c := state.Caps[at].Held.Cap
	if c.Kind != api.KindEnv {
		return api.ErrKind
	}
	if c.Rights&api.Read == 0 || c.Rights&api.Write == 0 {
		return api.ErrRights
	}
	m.tree, _ = m.k.Tree(c.Obj)
	if slices.Contains(m.tree, m.env) {
		return api.ErrSelf
	}
	return api.OK
}

// clean: the frames that somebody in the tree owns, in the order in which they are first seen.
func (m *model) clean() {
	owned := insideFrames(m.k, m.env, m.slot)
	var seen []int
	for place, env := range m.tree {
		for _, h := range held(m.k, env, api.KindFrame) {
			if slices.Contains(owned, h.Cap.Obj) && !slices.Contains(seen, h.Cap.Obj) {
				seen = append(seen, h.Cap.Obj)
				m.k.Call(m.env, request(api.NatClean, m.slot, place, h.Slot))
			}
		}
	}
}

func (m *model) save(full bool) (api.Saved, api.Errno) {
	m.clean()
	f, keys, _ := walk.Read(m.k, m.env, m.slot)
	gen := m.s.Gen()
	if gen == 1<<32-1 {
		return api.Saved{}, api.ErrNoSpace
	}
	im := api.Image{Gen: gen + 1, Forest: f, Keys: keys}
	for range keys {
		im.Refs = append(im.Refs, -1)
	}
	if !full && gen != 0 && len(m.s.Extents()) != 5 {
		raws, code := m.s.Chain()
		if code != api.OK {
			return api.Saved{}, code
		}
		if base, code := chain.Load(raws); code == api.OK && base.Gen == gen {
			im.Incr, im.Prev, im.PrevIdent = true, gen, image.Ident(raws[len(raws)-1])
			im.Forest.Pages = nil
			for class, key := range keys {
				im.Refs[class] = slices.Index(base.Keys, key)
				if im.Refs[class] < 0 {
					im.Forest.Pages = append(im.Forest.Pages, f.Pages[class])
				}
			}
		}
	}
	data, err := image.Encode(im)
	if err != nil {
		return api.Saved{}, api.Errno(-1)
	}
	if code := m.s.Commit(data, !im.Incr); code != api.OK {
		return api.Saved{}, code
	}
	return api.Saved{Gen: gen + 1, Classes: len(f.Pages), Pages: len(im.Forest.Pages), Bytes: len(data), Full: !im.Incr}, api.OK
}
