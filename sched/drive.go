package sched

import (
	"slices"

	"amber/api"
	"amber/gate"
	"amber/run"
)

// maxSteps: of a drive, all its turns together.
const maxSteps = 4096

// Ready tells the serials of the environments of a tree that may run, in preorder.
func Ready(k *gate.Kernel, root int) ([]int, api.Errno) {
	if k == nil {
		return nil, api.ErrArg
	}
	tree, code := k.Tree(root)
	if code != api.OK {
		return nil, code
	}
	var serials []int
	for _, env := range tree {
		if k.Runs(env) {
			serials = append(serials, serialOf(k, env))
		}
	}
	return serials, api.OK
}

func serialOf(k *gate.Kernel, env int) int {
	x, _ := k.Env(env)
	return x.Serial
}

// Drive lets the tree go for so many turns of quantum steps, as the plan chooses; the events, and the serial that was chosen for each turn.
func Drive(k *gate.Kernel, p *Plan, root, turns, quantum int, answers []uint32) ([]api.Event, []int, api.Errno) {
	if k == nil || p == nil || !within(turns, quantum) {
		return nil, nil, api.ErrArg
	}
	if _, code := k.Tree(root); code != api.OK {
		return nil, nil, code
	}
	d := drive{k: k, plan: p, root: root, quantum: quantum, answers: answers}
	for range turns {
		if !d.turn() {
			break
		}
	}
	return d.events, d.chosen, api.OK
}

// within looks at each number ahead of their product, which could be too great for an int.
func within(turns, quantum int) bool {
	return turns >= 0 && turns <= maxSteps && quantum >= 1 && quantum <= maxSteps && turns*quantum <= maxSteps
}

// drive: what a drive is given, the answers that are left of it, and what it has told so far.
type drive struct {
	k             *gate.Kernel
	plan          *Plan
	root, quantum int
	answers       []uint32
	events        []api.Event
	chosen        []int
}

// turn does one turn; false, if nobody is ready: then nothing was done.
func (d *drive) turn() bool {
	// The root lives as long as the drive: a guest ends only what is properly below itself.
	ready, _ := Ready(d.k, d.root)
	if len(ready) == 0 {
		return false
	}
	serial, _ := d.plan.Next(ready)
	pick := api.Pick{K: d.place(serial), Steps: d.quantum}
	events, _ := run.Run(d.k, d.root, []api.Pick{pick}, d.answers)
	d.answers = d.answers[taken(events):]
	d.events = append(d.events, events...)
	d.chosen = append(d.chosen, serial)
	return true
}

// place finds an environment in the tree as it is now: guests make and end environments as they go.
func (d *drive) place(serial int) int {
	tree, _ := d.k.Tree(d.root)
	return slices.IndexFunc(tree, func(env int) bool { return serialOf(d.k, env) == serial })
}

// taken: how many answers a run has used up.
func taken(events []api.Event) int {
	n := 0
	for _, e := range events {
		if e.Kind == api.EvSys && e.Call == api.CallAsk && e.Code == api.OK {
			n++
		}
	}
	return n
}
