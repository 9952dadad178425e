package amber

import (
	"amber/api"
	"amber/sched"
)

// planCommand reads the lines about plans.
func planCommand(name string, a *arguments) command {
	switch name {
	case "plan":
		return &planLine{kind: a.number()}
	case "weigh":
		return &weighLine{tree: a.tree(), k: a.number(), weight: a.number()}
	case "drive":
		return &driveLine{tree: a.tree(), turns: a.number(), quantum: a.number(), answers: a.answers()}
	}
	return nil
}

type planLine struct {
	kind int
}

func (c *planLine) do(w *World) api.Errno {
	p, code := sched.New(c.kind)
	if code != api.OK {
		return code
	}
	w.plan = p
	return api.OK
}

// planned: the root of a tree that is gone through by the plan.
func (m *machine) planned(t tree) (int, api.Errno) {
	if m.plan == nil {
		return 0, api.ErrState
	}
	return m.root(t)
}

type weighLine struct {
	tree      tree
	k, weight int
}

func (c *weighLine) do(w *World) api.Errno {
	root, code := w.planned(c.tree)
	if code != api.OK {
		return code
	}
	envs, _ := w.kernel.Tree(root)
	if c.k < 0 || c.k >= len(envs) {
		return api.ErrArg
	}
	x, _ := w.kernel.Env(envs[c.k])
	return w.plan.Set(x.Serial, c.weight)
}

type driveLine struct {
	tree           tree
	turns, quantum int
	answers        []uint32
	events         []api.Event
	chosen         []int
}

func (c *driveLine) do(w *World) api.Errno {
	root, code := w.planned(c.tree)
	if code != api.OK {
		return code
	}
	c.events, c.chosen, code = sched.Drive(w.kernel, w.plan, root, c.turns, c.quantum, c.answers)
	return code
}
