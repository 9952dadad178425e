package amber

import (
	"amber/api"
	"amber/audit"
	"amber/walk"
)

// kernelCommand reads the lines about the current machine's kernel, and which machine that is.
func kernelCommand(name string, a *arguments) command {
	switch name {
	case "call":
		return &callLine{env: a.number(), request: a.request()}
	case "tree":
		return &treeLine{tree: a.tree()}
	case "state":
		return &stateLine{}
	case "audit":
		return &auditLine{}
	case "swap":
		return &swapLine{}
	}
	return nil
}

type callLine struct {
	env     int
	request api.Request
	reply   api.Reply
}

func (c *callLine) do(w *World) api.Errno {
	c.reply = w.kernel.Call(c.env, c.request)
	return c.reply.Code
}

type treeLine struct {
	tree   tree
	forest api.Forest
}

func (c *treeLine) do(w *World) (code api.Errno) {
	c.forest, _, code = walk.Read(w.kernel, c.tree.env, c.tree.slot)
	return code
}

type stateLine struct {
	state api.State
}

func (c *stateLine) do(w *World) api.Errno {
	c.state = w.kernel.State()
	return api.OK
}

type auditLine struct {
	broken []api.Broken
}

func (c *auditLine) do(w *World) api.Errno {
	c.broken = audit.Check(w.kernel.State())
	return api.OK
}

type swapLine struct {
	current int
}

func (c *swapLine) do(w *World) api.Errno {
	w.machine, w.other = w.other, w.machine
	c.current = w.number
	return api.OK
}
