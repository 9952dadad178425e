package amber

import (
	"slices"
	"strings"

	"amber/api"
	"amber/gate"
	"amber/isa"
	"amber/mem"
	"amber/tongue"
)

// programCommand reads the lines about programs.
func programCommand(name string, a *arguments) command {
	switch name {
	case "prog":
		return &progLine{a.source()}
	case "speak":
		return &speakLine{a.source()}
	case "mean":
		return &meanLine{fuel: a.number(), answers: a.list(), source: a.text()}
	case "load":
		return &loadLine{env: a.number(), page: a.number(), name: a.name()}
	}
	return nil
}

// source: a program's name and text, and what became of it: how many words, or which line is at fault.
type source struct {
	name, text  string
	words, line int
}

func (a *arguments) source() source { return source{name: a.name(), text: a.text()} }

// lay keeps what was made of the text, if it was not refused.
func (s *source) lay(w *World, words []uint32, line int, code api.Errno) api.Errno {
	s.words, s.line = len(words), line
	if code == api.OK {
		w.programs[strings.Clone(s.name)] = words
	}
	return code
}

type progLine struct {
	source
}

func (c *progLine) do(w *World) api.Errno {
	words, line, code := isa.Assemble(strings.ReplaceAll(c.text, "|", "\n"))
	return c.lay(w, words, line, code)
}

type speakLine struct {
	source
}

func (c *speakLine) do(w *World) api.Errno {
	words, line, code := tongue.Compile(c.text)
	return c.lay(w, words, line, code)
}

type meanLine struct {
	fuel    int
	answers []uint32
	source  string
	meaning api.Meaning
	line    int
}

func (c *meanLine) do(w *World) (code api.Errno) {
	c.meaning, c.line, code = tongue.Eval(c.source, c.answers, c.fuel)
	return code
}

type loadLine struct {
	env, page int
	name      string
	slots     []int
}

func (c *loadLine) do(w *World) api.Errno {
	words, there := w.programs[c.name]
	if !there {
		return api.ErrSlot
	}
	for part := range slices.Chunk(words, api.PageWords) {
		slot, code := layPage(w.kernel, c.env, c.page+len(c.slots), part)
		if code != api.OK {
			return code
		}
		c.slots = append(c.slots, slot)
	}
	return api.OK
}

// layPage lays words into a new frame of an environment, which a page of it leads to then; the frame's slot.
func layPage(k *gate.Kernel, env, page int, words []uint32) (int, api.Errno) {
	made := k.Call(env, api.Request{Call: api.CallAlloc})
	if made.Code != api.OK {
		return 0, made.Code
	}
	slot := made.V[0]
	var p api.Page
	copy(p[:], words)
	for _, r := range []api.Request{
		{Call: api.NatFill, A: [6]int{slot}, Data: mem.Pack(p)},
		{Call: api.CallMap, A: [6]int{page, slot, 1}},
	} {
		if reply := k.Call(env, r); reply.Code != api.OK {
			return 0, reply.Code
		}
	}
	return slot, api.OK
}
