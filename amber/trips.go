package amber

import (
	"amber/api"
	"amber/rewind"
)

// tripCommand reads the lines about trips.
func tripCommand(name string, a *arguments) command {
	switch name {
	case "trip":
		return &tripLine{slot: a.number()}
	case "go":
		return &goLine{orders: a.orders()}
	case "back":
		return &backLine{n: a.number()}
	case "forth":
		return &forthLine{n: a.number()}
	case "find":
		return &findLine{on: a.number(), k: a.number(), reg: a.number(), addr: a.number(), value: a.number()}
	}
	return nil
}

type tripLine struct {
	slot int
}

func (c *tripLine) do(w *World) api.Errno {
	if w.store == nil {
		return api.ErrState
	}
	t, code := rewind.Start(w.kernel, w.store, w.holder, c.slot)
	if code != api.OK {
		return code
	}
	w.trip = t
	return api.OK
}

// stand: where a trip is: how many runs lie behind, how many there are, and the slot of the present tree.
func stand(t *rewind.Trip) []int {
	behind, all := t.At()
	return []int{behind, all, t.Slot()}
}

type goLine struct {
	orders orders
	events []api.Event
}

func (c *goLine) do(w *World) (code api.Errno) {
	if w.trip == nil {
		return api.ErrState
	}
	c.events, code = w.trip.Go(c.orders.picks, c.orders.answers)
	return code
}

type backLine struct {
	n     int
	stand []int
}

func (c *backLine) do(w *World) api.Errno {
	if w.trip == nil {
		return api.ErrState
	}
	code := w.trip.Back(c.n)
	c.stand = stand(w.trip)
	return code
}

type forthLine struct {
	n      int
	stand  []int
	events []api.Event
}

func (c *forthLine) do(w *World) (code api.Errno) {
	if w.trip == nil {
		return api.ErrState
	}
	c.events, code = w.trip.Forth(c.n)
	c.stand = stand(w.trip)
	return code
}

type findLine struct {
	on, k, reg, addr, value int
	found                   int
}

func (c *findLine) do(w *World) (code api.Errno) {
	switch {
	case w.trip == nil:
		return api.ErrState
	case !isWord(c.addr) || !isWord(c.value):
		return api.ErrArg
	}
	c.found, code = w.trip.Find(api.Watch{On: c.on, K: c.k, Reg: c.reg, Addr: uint32(c.addr), Value: uint32(c.value)})
	return code
}
