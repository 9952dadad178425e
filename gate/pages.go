package gate

import (
	"amber/api"
	"amber/mem"
	"amber/page"
)

// table: the page table of an environment that lives.
func (k *Kernel) table(env int) *page.Table {
	t, _ := k.tables.Get(env)
	return t
}

// Load reads a word at a virtual address.
func (k *Kernel) Load(env int, addr uint32) (uint32, api.Errno) {
	f, word, code := k.find(env, addr, false)
	if code != api.OK {
		return 0, code
	}
	return k.frames.Load(f, word)
}

// Store writes one.
func (k *Kernel) Store(env int, addr uint32, v uint32) api.Errno {
	f, word, code := k.find(env, addr, true)
	if code != api.OK {
		return code
	}
	return k.frames.Store(f, word, v)
}

// find tells the frame and the word that an address leads to.
func (k *Kernel) find(env int, addr uint32, write bool) (int, int, api.Errno) {
	if !k.lives(env) {
		return 0, 0, api.ErrEnv
	}
	slot, word, code := k.table(env).Translate(addr, write)
	if code != api.OK {
		return 0, 0, code
	}
	return k.frame(env, slot), word, api.OK
}

// frame: the number of the frame that a slot names.
func (k *Kernel) frame(env, slot int) int {
	c, _ := k.lists.Get(env, slot)
	return c.Obj
}

// present tells the entry of a page that is there.
func (k *Kernel) present(env, v int) (api.Entry, api.Errno) {
	e, code := k.table(env).Entry(v)
	if code == api.OK && !e.Present {
		code = api.ErrUnmapped
	}
	return e, code
}

// needed: the rights that a page's capability must have.
func needed(write bool) int {
	if write {
		return api.Read | api.Write
	}
	return api.Read
}

// lead lets a page of an environment lead to a slot of its own list.
func (k *Kernel) lead(env, v, slot int, write bool) (api.Reply, api.Errno) {
	if _, code := k.held(env, slot, api.KindFrame, needed(write)); code != api.OK {
		return only(code)
	}
	return only(k.table(env).Map(v, slot, write))
}

func (k *Kernel) mapPage(env int, r api.Request) (api.Reply, api.Errno) {
	return k.lead(env, r.A[0], r.A[1], r.A[2] == 1)
}

func (k *Kernel) mapIn(env int, r api.Request) (api.Reply, api.Errno) {
	c, code := k.held(env, r.A[0], api.KindEnv, api.Write)
	if code != api.OK {
		return only(code)
	}
	return k.lead(c.Obj, r.A[1], r.A[2], r.A[3] == 1)
}

func (k *Kernel) unmap(env int, r api.Request) (api.Reply, api.Errno) {
	return only(k.table(env).Unmap(r.A[0]))
}

func (k *Kernel) protect(env int, r api.Request) (api.Reply, api.Errno) {
	v, write := r.A[0], r.A[1] == 1
	e, code := k.present(env, v)
	if code != api.OK {
		return only(code)
	}
	if _, code := k.held(env, e.Slot, api.KindFrame, needed(write)); code != api.OK {
		return only(code)
	}
	return only(k.table(env).Protect(v, write))
}

func (k *Kernel) read(env int, r api.Request) (api.Reply, api.Errno) {
	extent, e, code := k.transfer(env, r, api.Read)
	if code != api.OK {
		return only(code)
	}
	if !e.Write {
		return only(api.ErrReadOnly)
	}
	b, code := k.extents.Read(extent, r.A[1])
	if code != api.OK {
		return only(code)
	}
	p, _ := mem.Unpack(b)
	return only(k.frames.SetPage(k.frame(env, e.Slot), p))
}

func (k *Kernel) write(env int, r api.Request) (api.Reply, api.Errno) {
	extent, e, code := k.transfer(env, r, api.Write)
	if code != api.OK {
		return only(code)
	}
	p, _ := k.frames.Page(k.frame(env, e.Slot))
	return only(k.extents.Write(extent, r.A[1], mem.Pack(p)))
}

// transfer tells between which extent and which page a sector goes. The sector is looked at here, because its error comes ahead of the page's.
func (k *Kernel) transfer(env int, r api.Request, right int) (int, api.Entry, api.Errno) {
	slot, sector, v := r.A[0], r.A[1], r.A[2]
	c, code := k.held(env, slot, api.KindExtent, right)
	if code != api.OK {
		return 0, api.Entry{}, code
	}
	if !within(sector, 0, api.ExtSectors-1) {
		return 0, api.Entry{}, api.ErrSector
	}
	e, code := k.present(env, v)
	return c.Obj, e, code
}
