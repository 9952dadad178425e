package amber

import "amber/api"

// diskCommand reads the lines about the current machine's disk.
func diskCommand(name string, a *arguments) command {
	switch name {
	case "arm":
		return &armLine{acts: a.number()}
	case "crash":
		return &crashLine{keep: a.bits()}
	case "edit":
		return &editLine{sector: a.number(), at: a.number(), data: a.data()}
	case "raw":
		return &rawLine{sector: a.number()}
	case "disk":
		return &diskLine{}
	}
	return nil
}

type armLine struct {
	acts int
}

func (c *armLine) do(w *World) api.Errno { return w.disk.Arm(c.acts) }

type crashLine struct {
	keep []bool
	kept int
}

func (c *crashLine) do(w *World) api.Errno {
	c.kept = w.crash(c.keep)
	return api.OK
}

type editLine struct {
	sector, at int
	data       []byte
}

func (c *editLine) do(w *World) api.Errno { return w.disk.Edit(c.sector, c.at, c.data) }

type rawLine struct {
	sector int
	data   []byte
}

func (c *rawLine) do(w *World) (code api.Errno) {
	c.data, code = w.disk.Raw(c.sector)
	return code
}

type diskLine struct {
	acts    int
	down    bool
	pending []int
}

func (c *diskLine) do(w *World) api.Errno {
	c.acts, c.down, c.pending = w.disk.Acts(), w.disk.Down(), w.disk.Pending()
	return api.OK
}
