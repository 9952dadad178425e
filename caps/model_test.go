package caps_test

import (
	"slices"

	"amber/api"
)

// book: the calls of the chapter, which the package and the model below both have.
type book interface {
	Open(env int) api.Errno
	Shut(env int) ([]api.Held, api.Errno)
	Mint(env, at int, c api.Cap) (int, api.Errno)
	Derive(env, slot, to, at, rights int) (int, api.Errno)
	Drop(env, slot int) (api.Cap, api.Errno)
	Revoke(env, slot int) ([]api.Held, api.Errno)
	Purge(kind, obj int) []api.Held
	Get(env, slot int) (api.Cap, api.Errno)
	From(env, slot int) (api.Place, api.Errno)
	Up(env, slot int, inside []int) (api.Place, api.Errno)
	List(env int) ([]api.Held, api.Errno)
	Count(env, kind int) int
	On(kind, obj int) int
	Room(env int) int
	Find(env, kind, serial, rights int) int
}

// one: a capability with its whole line: the names of all from which it was ever derived, directly or through others, the nearest last. A name is given once, so a line never changes, whatever goes.
type one struct {
	name int
	line []int
	held api.Held
}

// model: the chapter's rules told once more, by lines instead of parents.
type model struct {
	open  []int
	all   []one
	names int
}

func (m *model) lies(env, slot int) int {
	return slices.IndexFunc(m.all, func(o one) bool { return o.held.Env == env && o.held.Slot == slot })
}

func (m *model) refused(env, slot int) api.Errno {
	if !slices.Contains(m.open, env) {
		return api.ErrList
	}
	if m.lies(env, slot) < 0 {
		return api.ErrNoCap
	}
	return api.OK
}

// lay puts one into a list that is open, at a number that may be.
func (m *model) lay(env, at int, c api.Cap, line []int) (int, api.Errno) {
	if at >= 0 && m.lies(env, at) >= 0 {
		return -1, api.ErrTaken
	}
	for at = max(at, 0); m.lies(env, at) >= 0; at++ {
	}
	if at > 47 {
		return -1, api.ErrNoSpace
	}
	m.names++
	m.all = append(m.all, one{name: m.names, line: line, held: api.Held{Env: env, Slot: at, Cap: c}})
	return at, api.OK
}

// take takes away those that a test is for, and tells them in order.
func (m *model) take(goes func(one) bool) []api.Held {
	var out []api.Held
	for _, o := range m.all {
		if goes(o) {
			out = append(out, o.held)
		}
	}
	m.all = slices.DeleteFunc(m.all, goes)
	slices.SortFunc(out, func(a, b api.Held) int { return (a.Env*48 + a.Slot) - (b.Env*48 + b.Slot) })
	return out
}

func (m *model) count(fits func(one) bool) int {
	n := 0
	for _, o := range m.all {
		if fits(o) {
			n++
		}
	}
	return n
}

// above tells the nearest of a line that is left and fits.
func (m *model) above(o one, fits func(env int) bool) api.Place {
	for i := len(o.line) - 1; i >= 0; i-- {
		for _, a := range m.all {
			if a.name == o.line[i] && fits(a.held.Env) {
				return api.Place{Env: a.held.Env, Slot: a.held.Slot}
			}
		}
	}
	return api.Place{Env: -1, Slot: -1}
}

func (m *model) Open(env int) api.Errno {
	if env < 0 || env > 15 || slices.Contains(m.open, env) {
		return api.ErrList
	}
	m.open = append(m.open, env)
	return api.OK
}

func (m *model) Shut(env int) ([]api.Held, api.Errno) {
	i := slices.Index(m.open, env)
	if i < 0 {
		return nil, api.ErrList
	}
	m.open = slices.Delete(m.open, i, i+1)
	return m.take(func(o one) bool { return o.held.Env == env }), api.OK
}

func (m *model) Mint(env, at int, c api.Cap) (int, api.Errno) {
	if !slices.Contains(m.open, env) {
		return -1, api.ErrList
	}
	if at < -1 || at > 47 || c.Kind < 1 || c.Kind > 3 || c.Obj < 0 || c.Obj >= 1<<62 || c.Serial < 1 || c.Serial >= 1<<62 || c.Rights < 0 || c.Rights > 15 {
		return -1, api.ErrArg
	}
	return m.lay(env, at, c, nil)
}

func (m *model) Derive(env, slot, to, at, rights int) (int, api.Errno) {
	if !slices.Contains(m.open, env) || !slices.Contains(m.open, to) {
		return -1, api.ErrList
	}
	if code := m.refused(env, slot); code != api.OK {
		return -1, code
	}
	if at < -1 || at > 47 || rights < 0 || rights > 15 {
		return -1, api.ErrArg
	}
	o := m.all[m.lies(env, slot)]
	c := o.held.Cap
	if c.Rights&4 != 4 || c.Rights&rights != rights {
		return -1, api.ErrRights
	}
	c.Rights = rights
	return m.lay(to, at, c, append(slices.Clone(o.line), o.name))
}

func (m *model) Drop(env, slot int) (api.Cap, api.Errno) {
	if code := m.refused(env, slot); code != api.OK {
		return api.Cap{}, code
	}
	name := m.all[m.lies(env, slot)].name
	return m.take(func(o one) bool { return o.name == name })[0].Cap, api.OK
}

func (m *model) Revoke(env, slot int) ([]api.Held, api.Errno) {
	if code := m.refused(env, slot); code != api.OK {
		return nil, code
	}
	name := m.all[m.lies(env, slot)].name
	return m.take(func(o one) bool { return slices.Contains(o.line, name) }), api.OK
}

func (m *model) Purge(kind, obj int) []api.Held {
	return m.take(func(o one) bool { return o.held.Cap.Kind == kind && o.held.Cap.Obj == obj })
}

func (m *model) Get(env, slot int) (api.Cap, api.Errno) {
	if code := m.refused(env, slot); code != api.OK {
		return api.Cap{}, code
	}
	return m.all[m.lies(env, slot)].held.Cap, api.OK
}

func (m *model) From(env, slot int) (api.Place, api.Errno) {
	return m.Up(env, slot, m.open)
}

func (m *model) Up(env, slot int, inside []int) (api.Place, api.Errno) {
	if code := m.refused(env, slot); code != api.OK {
		return api.Place{Env: -1, Slot: -1}, code
	}
	return m.above(m.all[m.lies(env, slot)], func(env int) bool { return slices.Contains(inside, env) }), api.OK
}

func (m *model) List(env int) ([]api.Held, api.Errno) {
	if !slices.Contains(m.open, env) {
		return nil, api.ErrList
	}
	copied := model{all: slices.Clone(m.all)}
	return copied.take(func(o one) bool { return o.held.Env == env }), api.OK
}

func (m *model) Count(env, kind int) int {
	return m.count(func(o one) bool { return o.held.Env == env && o.held.Cap.Kind == kind })
}

func (m *model) On(kind, obj int) int {
	return m.count(func(o one) bool { return o.held.Cap.Kind == kind && o.held.Cap.Obj == obj })
}

func (m *model) Room(env int) int {
	if !slices.Contains(m.open, env) {
		return 0
	}
	return 48 - m.count(func(o one) bool { return o.held.Env == env })
}

func (m *model) Find(env, kind, serial, rights int) int {
	for slot := range 48 {
		if i := m.lies(env, slot); i >= 0 && rights >= 0 && rights <= 15 {
			if c := m.all[i].held.Cap; c.Kind == kind && c.Serial == serial && c.Rights&rights == rights {
				return slot
			}
		}
	}
	return -1
}
