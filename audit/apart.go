package audit

import "amber/api"

// passage: two states, the one before and the one after, and the numbers in the trees that may have changed.
type passage struct {
	a, b   view
	inside set[int]
}

func (p passage) outside(num int) bool { return !p.inside.has(num) }

// stays tells whether a holder is outside, and the same in both states.
func (p passage) stays(num int) bool {
	before, was := p.a.env(num)
	after, is := p.b.env(num)
	return p.outside(num) && was && is && before.Serial == after.Serial
}

// changed tells whether a record is not there any more, or not as it was.
func changed[T any](x T, after roll[T], same func(x, y T) bool) bool {
	y, there := after.find(after.name(x))
	return !there || !same(x, y)
}

func (p passage) goneEnvs() []api.Broken {
	return broken(1, p.a.envs, func(_ int, e api.EnvState) bool {
		return p.outside(e.Num) && changed(e, p.b.envs, func(x, y api.EnvState) bool {
			x.Env.Left = y.Env.Left
			return x == y
		})
	})
}

func (p passage) goneCaps() []api.Broken {
	return broken(2, p.a.caps, func(_ int, c api.CapState) bool {
		return p.stays(c.Held.Env) && changed(c, p.b.caps, func(x, y api.CapState) bool { return x.Held == y.Held })
	})
}

func (p passage) gonePages() []api.Broken {
	return broken(3, p.a.maps, func(_ int, m api.MapRec) bool {
		return p.stays(m.Env) && changed(m, p.b.maps, func(x, y api.MapRec) bool { return x == y })
	})
}

func (p passage) goneFrames(kept map[name]int) []api.Broken {
	return broken(4, p.a.frames, func(_ int, f api.FrameState) bool {
		return kept[name{api.KindFrame, f.Num}] > 0 && changed(f, p.b.frames, func(x, y api.FrameState) bool {
			x.Frame.Holds = y.Frame.Holds
			return x == y
		})
	})
}

func (p passage) goneExtents(kept map[name]int) []api.Broken {
	return broken(5, p.a.extents, func(_ int, e api.ExtState) bool {
		return kept[name{api.KindExtent, e.Num}] > 0 && changed(e, p.b.extents, func(x, y api.ExtState) bool { return x.Serial == y.Serial })
	})
}

func (p passage) newCaps() []api.Broken {
	return broken(6, p.b.caps, func(_ int, c api.CapState) bool {
		return p.stays(c.Held.Env) && p.a.caps.lacks(p.b.caps.name(c))
	})
}

func (p passage) newPages() []api.Broken {
	return broken(7, p.b.maps, func(_ int, m api.MapRec) bool {
		return p.stays(m.Env) && p.a.maps.lacks(p.b.maps.name(m))
	})
}

func (p passage) newEnvs() []api.Broken {
	return broken(8, p.b.envs, func(_ int, e api.EnvState) bool {
		return p.outside(e.Num) && !p.a.has(e.Num)
	})
}
