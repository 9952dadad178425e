package amber

import (
	"slices"

	"amber/api"
	"amber/chain"
	"amber/ferry"
	"amber/image"
)

// maxFlight: packets that may be under way.
const maxFlight = 4096

// packet: one that is under way between the machines.
type packet struct {
	back  bool // to the sender; else to the receiver
	bytes []byte
}

// ferryCommand reads the lines about the line between the machines and its two ends.
func ferryCommand(name string, a *arguments) command {
	switch name {
	case "send":
		return &sendLine{}
	case "take":
		return &takeLine{}
	case "tick":
		return &tickLine{}
	case "pass":
		return &passLine{n: a.number()}
	case "lose":
		return &loseLine{n: a.number()}
	case "copy":
		return &copyLine{n: a.number()}
	case "spoil":
		return &spoilLine{n: a.number(), at: a.number(), mask: a.number()}
	case "land":
		return &landLine{}
	}
	return nil
}

type sendLine struct {
	left int
}

func (c *sendLine) do(w *World) api.Errno {
	folded, code := w.fold()
	if code != api.OK {
		return code
	}
	cargo, code := ferry.Load(folded.Forest)
	if code != api.OK {
		return code
	}
	sender, code := ferry.NewSender(cargo)
	if code != api.OK {
		return code
	}
	w.sender, c.left = sender, sender.Left()
	return api.OK
}

type takeLine struct{}

func (c *takeLine) do(w *World) api.Errno {
	w.receiver = ferry.NewReceiver()
	return api.OK
}

type tickLine struct {
	packets int
}

func (c *tickLine) do(w *World) api.Errno {
	switch {
	case w.sender == nil:
		return api.ErrState
	case len(w.flight) > maxFlight-api.Window:
		return api.ErrNoSpace
	}
	for _, bytes := range w.sender.Tick() {
		w.flight = append(w.flight, packet{bytes: bytes})
		c.packets++
	}
	return api.OK
}

// flies: whether there is an n-th packet under way.
func (w *World) flies(n int) bool { return n >= 0 && n < len(w.flight) }

// remove takes the n-th packet off the line.
func (w *World) remove(n int) packet {
	p := w.flight[n]
	w.flight = slices.Delete(w.flight, n, n+1)
	return p
}

type passLine struct {
	n    int
	told []int // what the side to which the packet came has then
}

func (c *passLine) do(w *World) api.Errno {
	switch {
	case !w.flies(c.n):
		return api.ErrArg
	case w.flight[c.n].back:
		return c.toSender(w)
	}
	return c.toReceiver(w)
}

func (c *passLine) toSender(w *World) api.Errno {
	if w.sender == nil {
		return api.ErrState
	}
	code := w.sender.Take(w.remove(c.n).bytes)
	c.told = []int{w.sender.Left()}
	return code
}

func (c *passLine) toReceiver(w *World) api.Errno {
	if w.receiver == nil {
		return api.ErrState
	}
	answer, code := w.receiver.Take(w.remove(c.n).bytes)
	if code != api.OK {
		return code
	}
	w.flight = append(w.flight, packet{back: true, bytes: answer})
	have, all := w.receiver.Have()
	c.told = []int{have, all}
	return api.OK
}

type loseLine struct {
	n int
}

func (c *loseLine) do(w *World) api.Errno {
	if !w.flies(c.n) {
		return api.ErrArg
	}
	w.remove(c.n)
	return api.OK
}

type copyLine struct {
	n int
}

func (c *copyLine) do(w *World) api.Errno {
	switch {
	case !w.flies(c.n):
		return api.ErrArg
	case len(w.flight) >= maxFlight:
		return api.ErrNoSpace
	}
	p := w.flight[c.n]
	p.bytes = slices.Clone(p.bytes)
	w.flight = append(w.flight, p)
	return api.OK
}

type spoilLine struct {
	n, at, mask int
}

func (c *spoilLine) do(w *World) api.Errno {
	if !w.flies(c.n) || c.mask < 0 || c.mask > 255 {
		return api.ErrArg
	}
	bytes := w.flight[c.n].bytes
	if c.at < 0 || c.at >= len(bytes) {
		return api.ErrArg
	}
	bytes[c.at] ^= byte(c.mask)
	return api.OK
}

type landLine struct {
	gen int
}

func (c *landLine) do(w *World) api.Errno {
	cargo, whole := w.cargo()
	if !whole || w.store == nil {
		return api.ErrState
	}
	forest, code := ferry.Unload(cargo)
	if code != api.OK {
		return code
	}
	code = w.commit(forest)
	c.gen = w.store.Gen()
	return code
}

// cargo tells what the receiver has; false, if that isn't all, or there is no receiver.
func (w *World) cargo() ([]byte, bool) {
	if w.receiver == nil {
		return nil, false
	}
	return w.receiver.Cargo()
}

// commit begins a new chain of the open store with a forest from elsewhere. No frame here is one of its classes, so its keys have no marks: nothing is left out behind it by them.
func (m *machine) commit(f api.Forest) api.Errno {
	keys := make([]api.Key, len(f.Pages))
	for i := range keys {
		keys[i].Serial = i + 1
	}
	full, code := chain.Full(f, keys, m.store.Gen()+1)
	if code != api.OK {
		return code
	}
	bytes, err := image.Encode(full)
	if err != nil {
		return api.ErrImage
	}
	return m.store.Commit(bytes, true)
}
