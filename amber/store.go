package amber

import (
	"amber/api"
	"amber/chain"
	"amber/ckpt"
	"amber/restore"
	"amber/store"
)

// storeCommand reads the lines about the current machine's store.
func storeCommand(name string, a *arguments) command {
	switch name {
	case "open":
		return &openLine{env: a.number(), home: a.number()}
	case "close":
		return &closeLine{}
	case "save":
		return &saveLine{slot: a.number(), full: a.either("full", "next")}
	case "wake":
		return &wakeLine{}
	case "fold":
		return &foldLine{}
	case "where":
		return &whereLine{}
	}
	return nil
}

type openLine struct {
	env, home int
	gen       int
}

func (c *openLine) do(w *World) api.Errno {
	if w.store != nil {
		return api.ErrState
	}
	s, code := store.Open(w.kernel, c.env, c.home)
	if code != api.OK {
		return code
	}
	w.store, w.holder = s, c.env
	c.gen = s.Gen()
	return api.OK
}

type closeLine struct{}

func (c *closeLine) do(w *World) api.Errno {
	if w.store == nil {
		return api.ErrState
	}
	code := w.store.Close()
	w.store = nil
	return code
}

type saveLine struct {
	slot  int
	full  bool
	saved api.Saved
}

func (c *saveLine) do(w *World) (code api.Errno) {
	if w.store == nil {
		return api.ErrState
	}
	c.saved, code = ckpt.Checkpoint(w.kernel, w.store, w.holder, c.slot, c.full)
	return code
}

type wakeLine struct {
	slot int
}

func (c *wakeLine) do(w *World) (code api.Errno) {
	if w.store == nil {
		return api.ErrState
	}
	c.slot, code = restore.Restore(w.kernel, w.store, w.holder)
	return code
}

type foldLine struct {
	folded api.Folded
}

func (c *foldLine) do(w *World) (code api.Errno) {
	c.folded, code = w.fold()
	return code
}

// fold tells what the open store's chain says.
func (m *machine) fold() (api.Folded, api.Errno) {
	if m.store == nil {
		return api.Folded{}, api.ErrState
	}
	images, code := m.store.Chain()
	if code != api.OK {
		return api.Folded{}, code
	}
	return chain.Load(images)
}

type whereLine struct {
	extents [][]int
}

func (c *whereLine) do(w *World) api.Errno {
	if w.store == nil {
		return api.ErrState
	}
	c.extents = w.store.Extents()
	return api.OK
}
