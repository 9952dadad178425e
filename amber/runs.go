package amber

import (
	"amber/api"
	"amber/replay"
	"amber/run"
)

// runCommand reads the lines about runs and the log of them.
func runCommand(name string, a *arguments) command {
	switch name {
	case "run":
		return &runLine{tree: a.tree(), orders: a.orders()}
	case "record":
		return &recordLine{tree: a.tree(), orders: a.orders()}
	case "replay":
		return &replayLine{tree: a.tree()}
	case "forget":
		return &forgetLine{}
	}
	return nil
}

// orders: who goes how far in a run, and what is answered to asks.
type orders struct {
	picks   []api.Pick
	answers []uint32
}

type runLine struct {
	tree   tree
	orders orders
	events []api.Event
}

func (c *runLine) do(w *World) api.Errno {
	root, code := w.root(c.tree)
	if code != api.OK {
		return code
	}
	c.events, code = run.Run(w.kernel, root, c.orders.picks, c.orders.answers)
	return code
}

type recordLine struct {
	tree   tree
	orders orders
	events []api.Event
}

func (c *recordLine) do(w *World) api.Errno {
	root, code := w.root(c.tree)
	if code != api.OK {
		return code
	}
	log, events, code := replay.Record(w.log, w.kernel, root, c.orders.picks, c.orders.answers)
	if code != api.OK {
		return code
	}
	w.log, c.events = log, events
	return api.OK
}

type replayLine struct {
	tree   tree
	legs   int
	events []api.Event
}

func (c *replayLine) do(w *World) api.Errno {
	root, code := w.root(c.tree)
	if code != api.OK {
		return code
	}
	c.events, c.legs, code = replay.Replay(w.log, w.kernel, root)
	return code
}

type forgetLine struct{}

func (c *forgetLine) do(w *World) api.Errno {
	w.log = nil
	return api.OK
}
