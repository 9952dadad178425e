package audit_test

import (
	"cmp"
	"slices"

	"amber/api"
)

// The chapter's words once more, apart from the package's own way: lists looked through from the front, sets that grow till they stay.

func first[T any](list []T, is func(x T) bool) (T, bool) {
	for _, x := range list {
		if is(x) {
			return x, true
		}
	}
	var none T
	return none, false
}

func envModel(s api.State, num int) (api.EnvState, bool) {
	return first(s.Envs, func(e api.EnvState) bool { return e.Num == num })
}

func frameModel(s api.State, num int) (api.FrameState, bool) {
	return first(s.Frames, func(f api.FrameState) bool { return f.Num == num })
}

func extentModel(s api.State, num int) (api.ExtState, bool) {
	return first(s.Extents, func(x api.ExtState) bool { return x.Num == num })
}

func capModel(s api.State, env, slot int) (api.CapState, bool) {
	return first(s.Caps, func(c api.CapState) bool { return c.Held.Env == env && c.Held.Slot == slot })
}

func mapModel(s api.State, env, v int) (api.MapRec, bool) {
	return first(s.Maps, func(m api.MapRec) bool { return m.Env == env && m.V == v })
}

func thereModel(s api.State, num int) bool {
	_, there := envModel(s, num)
	return there
}

// treeModel: of an environment that is there.
func treeModel(s api.State, num int) []int {
	tree := []int{num}
	for grew := true; grew; {
		grew = false
		for _, e := range s.Envs {
			if slices.Contains(tree, e.Env.Parent) && !slices.Contains(tree, e.Num) {
				tree, grew = append(tree, e.Num), true
			}
		}
	}
	return tree
}

func placeOf(c api.CapState) api.Place { return api.Place{Env: c.Held.Env, Slot: c.Held.Slot} }

func sameThing(x, y api.Cap) bool {
	return x.Kind == y.Kind && x.Obj == y.Obj && x.Serial == y.Serial
}

func paidModel(s api.State, env int) (api.Quota, api.Errno) {
	if !thereModel(s, env) {
		return api.Quota{}, api.ErrEnv
	}
	return billModel(s, env), api.OK
}

func billModel(s api.State, env int) api.Quota {
	var q api.Quota
	for _, c := range s.Caps {
		if c.Held.Env == env && c.Held.Cap.Kind == 1 {
			q.Frames++
		}
		if c.Held.Env == env && c.Held.Cap.Kind == 3 {
			q.Extents++
		}
	}
	for _, e := range s.Envs {
		if e.Env.Parent == env {
			q.Frames += e.Env.Quota.Frames
			q.Envs += e.Env.Quota.Envs
			q.Envs++
			q.Extents += e.Env.Quota.Extents
		}
	}
	return q
}

func belowModel(s api.State, env, slot int) ([]api.Place, api.Errno) {
	if _, there := capModel(s, env, slot); !there {
		return nil, api.ErrNoCap
	}
	top := api.Place{Env: env, Slot: slot}
	var set []api.Place
	for grew := true; grew; {
		grew = false
		for _, c := range s.Caps {
			if (c.From == top || slices.Contains(set, c.From)) && !slices.Contains(set, placeOf(c)) {
				set, grew = append(set, placeOf(c)), true
			}
		}
	}
	var told []api.Place
	for _, p := range set {
		if p != top {
			told = append(told, p)
		}
	}
	slices.SortFunc(told, func(x, y api.Place) int {
		if x.Env != y.Env {
			return cmp.Compare(x.Env, y.Env)
		}
		return cmp.Compare(x.Slot, y.Slot)
	})
	return told, api.OK
}

func reachModel(s api.State, root int) ([]api.Cap, api.Errno) {
	if !thereModel(s, root) {
		return nil, api.ErrEnv
	}
	tree := treeModel(s, root)
	var rows []api.Cap
	for _, c := range s.Caps {
		if !slices.Contains(tree, c.Held.Env) {
			continue
		}
		at := slices.IndexFunc(rows, func(row api.Cap) bool { return sameThing(row, c.Held.Cap) })
		if at < 0 {
			rows = append(rows, c.Held.Cap)
		} else {
			rows[at].Rights |= c.Held.Cap.Rights
		}
	}
	slices.SortFunc(rows, func(x, y api.Cap) int {
		return slices.Compare([]int{x.Kind, x.Obj, x.Serial}, []int{y.Kind, y.Obj, y.Serial})
	})
	return rows, api.OK
}

// report: broken rules, as they are found.
type report []api.Broken

func (r *report) tell(is bool, rule, a, b int) {
	if is && !slices.Contains(*r, api.Broken{Rule: rule, A: a, B: b}) {
		*r = append(*r, api.Broken{Rule: rule, A: a, B: b})
	}
}

func (r *report) sorted() []api.Broken {
	slices.SortFunc(*r, func(x, y api.Broken) int {
		return slices.Compare([]int{x.Rule, x.A, x.B}, []int{y.Rule, y.A, y.B})
	})
	return *r
}

func checkModel(s api.State) []api.Broken {
	var r report
	r.environments(s)
	r.serials(s)
	r.capabilities(s)
	r.pages(s)
	r.frames(s)
	r.extents(s)
	root, there := envModel(s, 0)
	r.tell(!there || root.Env.Quota != api.Quota{Frames: 64, Envs: 15, Extents: 32}, 12, 0, -1)
	return r.sorted()
}

func (r *report) environments(s api.State) {
	r.tell(len(s.Envs) == 0, 1, -1, -1)
	for i, e := range s.Envs {
		r.tell(e.Num < 0 || e.Num > 15, 1, e.Num, -1)
		r.tell(i == 0 && e.Num != 0, 1, e.Num, -1)
		r.tell(i > 0 && e.Num <= s.Envs[max(i, 1)-1].Num, 1, e.Num, -1)
		parent, there := envModel(s, e.Env.Parent)
		r.tell(e.Num == 0 && e.Env.Parent != -1, 2, 0, -1)
		r.tell(e.Num != 0 && !there, 2, e.Num, -1)
		r.tell(e.Num != 0 && e.Env.Serial <= parent.Env.Serial && there, 2, e.Num, -1)
		r.tell(e.Env.State < 0 || e.Env.State > 4, 4, e.Num, -1)
		r.tell(e.Env.Code < 0 || e.Env.Code > 4294967295, 4, e.Num, -1)
		r.tell(e.Env.Bits < 0 || e.Env.Bits > 4294967295, 4, e.Num, -1)
		left, paid := e.Env.Left, billModel(s, e.Num)
		r.tell(left.Frames < 0 || left.Frames != e.Env.Quota.Frames-paid.Frames, 11, e.Num, -1)
		r.tell(left.Envs < 0 || left.Envs != e.Env.Quota.Envs-paid.Envs, 11, e.Num, -1)
		r.tell(left.Extents < 0 || left.Extents != e.Env.Quota.Extents-paid.Extents, 11, e.Num, -1)
	}
}

func (r *report) serials(s api.State) {
	var ahead []int
	each := func(kind, num, serial int) {
		r.tell(serial < 1 || serial >= s.Serial || slices.Contains(ahead, serial), 3, kind, num)
		ahead = append(ahead, serial)
	}
	for _, e := range s.Envs {
		each(2, e.Num, e.Env.Serial)
	}
	for _, f := range s.Frames {
		each(1, f.Num, f.Frame.Serial)
	}
	for _, x := range s.Extents {
		each(3, x.Num, x.Serial)
	}
}

func (r *report) capabilities(s api.State) {
	for i, c := range s.Caps {
		h := c.Held
		r.tell(!thereModel(s, h.Env) || h.Slot < 0 || h.Slot > 47, 5, h.Env, h.Slot)
		if i > 0 {
			a := s.Caps[i-1].Held
			r.tell(a.Env > h.Env || a.Env == h.Env && a.Slot >= h.Slot, 5, h.Env, h.Slot)
		}
		r.tell(!namedModel(s, h.Cap) || h.Cap.Rights < 0 || h.Cap.Rights > 15, 6, h.Env, h.Slot)
		if c.From != (api.Place{Env: -1, Slot: -1}) {
			p, there := capModel(s, c.From.Env, c.From.Slot)
			giver := p.Held.Cap
			fits := sameThing(giver, h.Cap) && giver.Rights&4 == 4 && giver.Rights&h.Cap.Rights == h.Cap.Rights
			r.tell(!there || !fits, 7, h.Env, h.Slot)
		}
		r.tell(endlessModel(s, c), 7, h.Env, h.Slot)
	}
}

func namedModel(s api.State, c api.Cap) bool {
	switch c.Kind {
	case 1:
		f, there := frameModel(s, c.Obj)
		return there && f.Frame.Serial == c.Serial
	case 2:
		e, there := envModel(s, c.Obj)
		return there && e.Env.Serial == c.Serial
	case 3:
		x, there := extentModel(s, c.Obj)
		return there && x.Serial == c.Serial
	}
	return false
}

// endlessModel: who goes further than there are capabilities has been somewhere twice.
func endlessModel(s api.State, c api.CapState) bool {
	for range len(s.Caps) + 1 {
		up, there := capModel(s, c.From.Env, c.From.Slot)
		if !there {
			return false
		}
		c = up
	}
	return true
}

func (r *report) pages(s api.State) {
	for i, m := range s.Maps {
		r.tell(!thereModel(s, m.Env) || m.V < 0 || m.V > 15, 8, m.Env, m.V)
		if i > 0 {
			a := s.Maps[i-1]
			r.tell(a.Env > m.Env || a.Env == m.Env && a.V >= m.V, 8, m.Env, m.V)
		}
		c, there := capModel(s, m.Env, m.Slot)
		rights := c.Held.Cap.Rights
		r.tell(!there || c.Held.Cap.Kind != 1 || rights&1 == 0 || m.Write && rights&2 == 0, 8, m.Env, m.V)
	}
}

func countModel(s api.State, kind, num int) int {
	n := 0
	for _, c := range s.Caps {
		if c.Held.Cap.Kind == kind && c.Held.Cap.Obj == num {
			n++
		}
	}
	return n
}

func (r *report) frames(s api.State) {
	for i, f := range s.Frames {
		r.tell(f.Num < 0 || f.Num > 63, 9, 1, f.Num)
		r.tell(f.Frame.Holds < 1 || f.Frame.Holds != countModel(s, 1, f.Num), 9, 1, f.Num)
		if i > 0 {
			r.tell(f.Num <= s.Frames[i-1].Num, 9, 1, f.Num)
		}
		mark := f.Frame.Mark
		r.tell(mark != 0 && !(mark > f.Frame.Serial && mark < s.Serial), 10, f.Num, -1)
		r.tell(mark == 0 && !f.Frame.Dirty, 10, f.Num, -1)
		for _, a := range s.Frames[:i] {
			r.tell(mark != 0 && a.Frame.Mark == mark, 10, f.Num, -1)
		}
	}
}

func (r *report) extents(s api.State) {
	for i, x := range s.Extents {
		r.tell(x.Num < 0 || x.Num > 31, 9, 3, x.Num)
		r.tell(x.Holds < 1 || x.Holds != countModel(s, 3, x.Num), 9, 3, x.Num)
		if i > 0 {
			r.tell(x.Num <= s.Extents[i-1].Num, 9, 3, x.Num)
		}
	}
}

// change: two states, and who may have changed.
type change struct {
	report
	a, b   api.State
	inside []int
}

func apartModel(a, b api.State, roots []int) []api.Broken {
	c := &change{a: a, b: b}
	for _, n := range roots {
		if thereModel(b, n) {
			c.inside = append(c.inside, treeModel(b, n)...)
		}
	}
	c.records()
	c.things()
	c.fresh()
	return c.sorted()
}

func (c *change) outside(num int) bool { return !slices.Contains(c.inside, num) }

func (c *change) stays(num int) bool {
	x, was := envModel(c.a, num)
	y, is := envModel(c.b, num)
	return c.outside(num) && was && is && x.Env.Serial == y.Env.Serial
}

func (c *change) records() {
	for _, x := range c.a.Envs {
		y, there := envModel(c.b, x.Num)
		y.Env.Left, x.Env.Left = api.Quota{}, api.Quota{}
		c.tell(c.outside(x.Num) && (!there || x.Env != y.Env), 1, x.Num, -1)
	}
	for _, x := range c.a.Caps {
		y, there := capModel(c.b, x.Held.Env, x.Held.Slot)
		c.tell(c.stays(x.Held.Env) && (!there || x.Held.Cap != y.Held.Cap), 2, x.Held.Env, x.Held.Slot)
	}
	for _, x := range c.a.Maps {
		y, there := mapModel(c.b, x.Env, x.V)
		c.tell(c.stays(x.Env) && (!there || x.Slot != y.Slot || x.Write != y.Write), 3, x.Env, x.V)
	}
}

// held: by one that stays.
func (c *change) held(kind, num int) bool {
	return slices.ContainsFunc(c.a.Caps, func(x api.CapState) bool {
		return x.Held.Cap.Kind == kind && x.Held.Cap.Obj == num && c.stays(x.Held.Env)
	})
}

func (c *change) things() {
	for _, x := range c.a.Frames {
		y, there := frameModel(c.b, x.Num)
		same := x.Frame.Serial == y.Frame.Serial && x.Frame.Dirty == y.Frame.Dirty && x.Frame.Mark == y.Frame.Mark && x.Page == y.Page
		c.tell(c.held(1, x.Num) && !(there && same), 4, x.Num, -1)
	}
	for _, x := range c.a.Extents {
		y, there := extentModel(c.b, x.Num)
		c.tell(c.held(3, x.Num) && !(there && x.Serial == y.Serial), 5, x.Num, -1)
	}
}

func (c *change) fresh() {
	for _, y := range c.b.Caps {
		_, was := capModel(c.a, y.Held.Env, y.Held.Slot)
		c.tell(c.stays(y.Held.Env) && !was, 6, y.Held.Env, y.Held.Slot)
	}
	for _, y := range c.b.Maps {
		_, was := mapModel(c.a, y.Env, y.V)
		c.tell(c.stays(y.Env) && !was, 7, y.Env, y.V)
	}
	for _, y := range c.b.Envs {
		c.tell(c.outside(y.Num) && !thereModel(c.a, y.Num), 8, y.Num, -1)
	}
}
