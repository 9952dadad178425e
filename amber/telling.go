package amber

import "amber/api"

// registers adds a guest's registers, PC last.
func (s *sheet) registers(r api.Regs) {
	s.numbers(ints(r.R[:])...)
	s.numbers(int(r.PC))
}

func (s *sheet) quota(q api.Quota) { s.numbers(q.Frames, q.Envs, q.Extents) }

func (s *sheet) state(x api.State) {
	for _, e := range x.Envs {
		s.word("env")
		s.numbers(e.Num, e.Env.Serial, e.Env.Parent, e.Env.State, e.Env.Code, e.Env.Bits, flag(e.Env.Frozen))
		s.registers(e.Env.Regs)
		s.quota(e.Env.Quota)
		s.end()
	}
	for _, c := range x.Caps {
		on := c.Held.Cap
		s.line("cap", c.Held.Env, c.Held.Slot, on.Kind, on.Obj, on.Serial, on.Rights, c.From.Env, c.From.Slot)
	}
	s.maps(x.Maps)
	for _, f := range x.Frames {
		s.word("frame")
		s.numbers(f.Num, f.Frame.Serial, flag(f.Frame.Dirty), f.Frame.Mark)
		s.word(pageHex(f.Page))
		s.end()
	}
	for _, e := range x.Extents {
		s.line("ext", e.Num, e.Serial)
	}
}

func (s *sheet) forest(f api.Forest) {
	for k, e := range f.Envs {
		s.word("env")
		s.numbers(k, e.Parent, e.State, e.Code, e.Bits, flag(e.Frozen))
		s.registers(e.Regs)
		s.quota(e.Quota)
		s.end()
	}
	for _, c := range f.Caps {
		s.word("cap")
		s.numbers(c.Env, c.Slot, c.Kind, c.Rights)
		if c.In {
			s.word("in")
		} else {
			s.word("out")
		}
		s.numbers(c.Obj, c.From.Env, c.From.Slot)
		s.end()
	}
	s.maps(f.Maps)
	for class, p := range f.Pages {
		s.word("page")
		s.numbers(class)
		s.word(pageHex(p))
		s.end()
	}
	for place, o := range f.Outs {
		s.line("out", place, o.Kind, o.Serial)
	}
}

// maps adds a line for each present page; of a forest's as of a state's.
func (s *sheet) maps(maps []api.MapRec) {
	for _, m := range maps {
		s.line("map", m.Env, m.V, m.Slot, flag(m.Write))
	}
}
