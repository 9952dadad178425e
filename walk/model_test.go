package walk_test

import (
	"cmp"
	"fmt"
	"math"
	"reflect"
	"slices"
	"testing"

	"amber/api"
	"amber/gate"
	"amber/image"
	"amber/walk"
)

// model: the chapter once more, on all that a kernel's state tells.
type model struct {
	s      api.State
	tree   []int          // environments' numbers, in preorder
	caps   []api.CapState // of their lists, by place, then slot
	forest api.Forest
	frames []api.FrameState // of the classes
}

func modelOf(s api.State, root int) *model {
	m := &model{s: s}
	m.descend(root)
	for place, env := range m.tree {
		m.addEnv(place, env)
		for _, c := range s.Caps {
			if c.Held.Env == env {
				m.caps = append(m.caps, c)
			}
		}
		for _, x := range s.Maps {
			if x.Env == env {
				x.Env = place
				m.forest.Maps = append(m.forest.Maps, x)
			}
		}
	}
	for _, c := range m.caps {
		m.addCap(c)
	}
	for _, f := range m.frames {
		m.forest.Pages = append(m.forest.Pages, f.Page)
	}
	return m
}

func (m *model) env(num int) api.Env {
	for _, e := range m.s.Envs {
		if e.Num == num {
			return e.Env
		}
	}
	return api.Env{}
}

func (m *model) descend(num int) {
	m.tree = append(m.tree, num)
	var below []api.EnvState
	for _, e := range m.s.Envs {
		if e.Env.Parent == num {
			below = append(below, e)
		}
	}
	slices.SortFunc(below, func(a, b api.EnvState) int { return cmp.Compare(a.Env.Serial, b.Env.Serial) })
	for _, e := range below {
		m.descend(e.Num)
	}
}

func (m *model) addEnv(place, num int) {
	e := m.env(num)
	rec := api.EnvRec{Parent: slices.Index(m.tree, e.Parent), State: e.State, Code: e.Code, Bits: e.Bits, Frozen: e.Frozen, Regs: e.Regs, Quota: e.Quota}
	if place == 0 {
		rec.Frozen = true
	}
	m.forest.Envs = append(m.forest.Envs, rec)
}

func (m *model) addCap(c api.CapState) {
	h := c.Held.Cap
	rec := api.CapRec{Env: slices.Index(m.tree, c.Held.Env), Slot: c.Held.Slot, Kind: h.Kind, Rights: h.Rights, From: m.from(c)}
	switch {
	case h.Kind == api.KindEnv && slices.Contains(m.tree, h.Obj):
		rec.In, rec.Obj = true, slices.Index(m.tree, h.Obj)
	case m.inside(h):
		rec.In, rec.Obj = true, m.class(h)
	default:
		out := api.OutRec{Kind: h.Kind, Serial: h.Serial}
		if !slices.Contains(m.forest.Outs, out) {
			m.forest.Outs = append(m.forest.Outs, out)
		}
		rec.Obj = slices.Index(m.forest.Outs, out)
	}
	m.forest.Caps = append(m.forest.Caps, rec)
}

// inside tells of a frame whether somebody in the tree owns it.
func (m *model) inside(h api.Cap) bool {
	return slices.ContainsFunc(m.caps, func(c api.CapState) bool {
		return h.Kind == api.KindFrame && c.Held.Cap.Kind == api.KindFrame && c.Held.Cap.Obj == h.Obj && c.Held.Cap.Rights >= api.Own
	})
}

func (m *model) class(h api.Cap) int {
	is := func(f api.FrameState) bool { return f.Num == h.Obj }
	if !slices.ContainsFunc(m.frames, is) {
		m.frames = append(m.frames, m.s.Frames[slices.IndexFunc(m.s.Frames, is)])
	}
	return slices.IndexFunc(m.frames, is)
}

// from goes up from parent to parent till one lies in the tree.
func (m *model) from(c api.CapState) api.Place {
	for c.From != none {
		if place := slices.Index(m.tree, c.From.Env); place >= 0 {
			return api.Place{Env: place, Slot: c.From.Slot}
		}
		at := slices.IndexFunc(m.s.Caps, func(x api.CapState) bool { return x.Held.Env == c.From.Env && x.Held.Slot == c.From.Slot })
		c = m.s.Caps[at]
	}
	return none
}

func (m *model) keys() []api.Key {
	var l []api.Key
	for _, f := range m.frames {
		l = append(l, api.Key{Serial: f.Frame.Serial, Mark: f.Frame.Mark})
	}
	return l
}

func (m *model) dirty() []bool {
	var l []bool
	for _, f := range m.frames {
		l = append(l, f.Frame.Dirty)
	}
	return l
}

// modelOpen: the errors of every call, in their order; else the model.
func modelOpen(k *gate.Kernel, env, slot, rights int) (*model, api.Errno) {
	if k == nil {
		return nil, api.ErrArg
	}
	s := k.State()
	if !slices.ContainsFunc(s.Envs, func(e api.EnvState) bool { return e.Num == env }) {
		return nil, api.ErrEnv
	}
	at := slices.IndexFunc(s.Caps, func(c api.CapState) bool { return c.Held.Env == env && c.Held.Slot == slot })
	if at < 0 {
		return nil, api.ErrNoCap
	}
	c := s.Caps[at].Held.Cap
	if c.Kind != api.KindEnv {
		return nil, api.ErrKind
	}
	if c.Rights&rights != rights {
		return nil, api.ErrRights
	}
	return modelOf(s, c.Obj), api.OK
}

// reads holds what Read, Dirty and Holds tell against the model, and Read's forest against image.Valid.
func reads(t *testing.T, where string, k *gate.Kernel, env, slot int) {
	t.Helper()
	m, wanted := modelOpen(k, env, slot, api.Read)
	if wanted != api.OK {
		m = &model{}
	}
	before := k.State()
	f, keys, code := walk.Read(k, env, slot)
	if code != wanted || !same(f, m.forest) || !slices.Equal(keys, m.keys()) {
		t.Fatalf("P14.1: %s: Read(%d, %d) = %+v, %v, %d, want %+v, %v, %d", where, env, slot, f, keys, code, m.forest, m.keys(), wanted)
	}
	if err := image.Valid(f); code == api.OK && err != nil {
		t.Fatalf("P14.10: %s: Read(%d, %d) = %+v: %v", where, env, slot, f, err)
	}
	if dirty, code := walk.Dirty(k, env, slot); code != wanted || !slices.Equal(dirty, m.dirty()) {
		t.Fatalf("P14.2: %s: Dirty(%d, %d) = %v, %d, want %v, %d", where, env, slot, dirty, code, m.dirty(), wanted)
	}
	if holds, code := walk.Holds(k, env, slot); code != wanted || holds != slices.Contains(m.tree, env) {
		t.Fatalf("P14.4: %s: Holds(%d, %d) = %v, %d, want %v, %d", where, env, slot, holds, code, !holds, wanted)
	}
	if now := k.State(); !reflect.DeepEqual(now, before) {
		t.Fatalf("P14.10: %s: Read, Dirty and Holds leave %+v, want %+v", where, now, before)
	}
}

// cleans does a Clean and holds the whole state behind it against the model's.
func cleans(t *testing.T, where string, k *gate.Kernel, env, slot int) {
	t.Helper()
	m, wanted := modelOpen(k, env, slot, api.Read|api.Write)
	want, n := k.State(), 0
	if wanted == api.OK {
		for _, f := range m.frames {
			at := slices.IndexFunc(want.Frames, func(x api.FrameState) bool { return x.Num == f.Num })
			if x := &want.Frames[at].Frame; x.Dirty {
				x.Dirty, x.Mark = false, want.Serial
				want.Serial++
				n++
			}
		}
	}
	got, code := walk.Clean(k, env, slot)
	if code != wanted || got != n {
		t.Fatalf("P14.3: %s: Clean(%d, %d) = %d, %d, want %d, %d", where, env, slot, got, code, n, wanted)
	}
	if now := k.State(); !reflect.DeepEqual(now, want) {
		t.Fatalf("P14.3: %s: Clean(%d, %d) leaves %+v, want %+v", where, env, slot, now, want)
	}
}

// freezes does a Freeze, likewise.
func freezes(t *testing.T, where string, k *gate.Kernel, env, slot int, on bool) {
	t.Helper()
	m, wanted := modelOpen(k, env, slot, api.Read|api.Write)
	want, was := k.State(), false
	if wanted == api.OK && slices.Contains(m.tree, env) {
		wanted = api.ErrSelf
	}
	if wanted == api.OK {
		at := slices.IndexFunc(want.Envs, func(e api.EnvState) bool { return e.Num == m.tree[0] })
		was, want.Envs[at].Env.Frozen = want.Envs[at].Env.Frozen, on
	}
	got, code := walk.Freeze(k, env, slot, on)
	if code != wanted || got != was {
		t.Fatalf("P14.5: %s: Freeze(%d, %d, %v) = %v, %d, want %v, %d", where, env, slot, on, got, code, was, wanted)
	}
	if now := k.State(); !reflect.DeepEqual(now, want) {
		t.Fatalf("P14.5: %s: Freeze(%d, %d, %v) leaves %+v, want %+v", where, env, slot, on, now, want)
	}
}

// anyEntry: mostly a capability on an environment, now and then whatever numbers.
func (d *dice) anyEntry(k *gate.Kernel) (int, int) {
	l := entries(k)
	if len(l) == 0 || d.below(12) == 0 {
		return d.of(0, 1, 2, 15, 16, -1, math.MinInt, math.MaxInt), d.of(0, 1, 2, 47, 48, -1, -2, math.MinInt, math.MaxInt)
	}
	p := l[d.below(len(l))]
	return p.Env, p.Slot
}

// TestScriptsAgainstTheModel: whatever environments do, what is told of their trees is what the chapter says of the state.
func TestScriptsAgainstTheModel(t *testing.T) {
	for seed := range 40 {
		d := dice(seed)
		s := site{k: boot(t, 1+seed)}
		planted(t, s.k, seed)
		for n := range 160 {
			d.act(s).do(s)
			env, slot := d.anyEntry(s.k)
			where := fmt.Sprintf("seed %d, act %d", seed, n)
			reads(t, where, s.k, env, slot)
			switch d.below(5) {
			case 0:
				cleans(t, where, s.k, env, slot)
			case 1:
				freezes(t, where, s.k, env, slot, d.below(2) == 0)
			}
		}
	}
}

// TestEveryEntry: all slots of all lists of kernels that scripts have filled.
func TestEveryEntry(t *testing.T) {
	for seed := range 6 {
		d := dice(seed + 1000)
		s := site{k: boot(t, 1<<61)}
		planted(t, s.k, seed)
		planted(t, s.k, seed+1)
		for range 100 {
			d.act(s).do(s)
		}
		for env := -1; env <= api.MaxEnvs; env++ {
			for slot := -1; slot <= api.MaxSlots; slot++ {
				reads(t, fmt.Sprint("seed ", seed), s.k, env, slot)
				freezes(t, fmt.Sprint("seed ", seed), s.k, env, slot, (env+slot)%2 == 0)
			}
		}
		for _, p := range entries(s.k) {
			cleans(t, fmt.Sprint("seed ", seed), s.k, p.Env, p.Slot)
		}
	}
}
