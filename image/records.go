package image

import (
	"amber/api"
	"amber/wire"
)

// minusOne: the byte that stands for -1, where a field may be that.
const minusOne = 0xff

// class: a class's record.
type class struct {
	key api.Key
	ref int
}

// sink writes records.
type sink struct{ *wire.Writer }

func writeSections(im api.Image) [sections][]byte {
	classes := make([]class, len(im.Keys))
	for i, key := range im.Keys {
		classes[i] = class{key, im.Refs[i]}
	}
	f := im.Forest
	return [sections][]byte{
		writeAll(f.Envs, sink.env),
		writeAll(f.Caps, sink.capability),
		writeAll(f.Maps, sink.mapped),
		writeAll(classes, sink.class),
		writeAll(f.Pages, sink.page),
		writeAll(f.Outs, sink.out),
	}
}

// writeAll: the numbers fit their widths and the bytes the bound, since Check has taken the image.
func writeAll[T any](list []T, one func(sink, T)) []byte {
	s := sink{wire.NewWriter(api.MaxImage)}
	for _, v := range list {
		one(s, v)
	}
	body, _ := s.Out()
	return body
}

func (s sink) env(e api.EnvRec) {
	s.orNone(e.Parent)
	s.U8(e.State)
	s.U8(bit(e.Frozen))
	s.U32(uint32(e.Code))
	s.U32(uint32(e.Bits))
	for _, r := range e.Regs.R {
		s.U32(r)
	}
	s.U32(e.Regs.PC)
	s.U8(e.Quota.Frames)
	s.U8(e.Quota.Envs)
	s.U8(e.Quota.Extents)
}

func (s sink) capability(c api.CapRec) {
	s.U8(c.Env)
	s.U8(c.Slot)
	s.U8(c.Kind)
	s.U8(c.Rights)
	s.U8(bit(c.In))
	s.U16(c.Obj)
	s.orNone(c.From.Env)
	s.orNone(c.From.Slot)
}

func (s sink) mapped(m api.MapRec) {
	s.U8(m.Env)
	s.U8(m.V)
	s.U8(m.Slot)
	s.U8(bit(m.Write))
}

func (s sink) class(c class) {
	s.U64(c.key.Serial)
	s.U64(c.key.Mark)
	s.orNone(c.ref)
}

func (s sink) page(p api.Page) {
	for _, word := range p {
		s.U32(word)
	}
}

func (s sink) out(o api.OutRec) {
	s.U8(o.Kind)
	s.U64(o.Serial)
}

func (s sink) orNone(v int) {
	if v == -1 {
		v = minusOne
	}
	s.U8(v)
}

// source reads records, and keeps the place of the first that is not of its form.
type source struct {
	*wire.Reader
	section int
	fault   error
}

func readSections(h header, body []byte) (api.Image, error) {
	s := &source{Reader: wire.NewReader(body)}
	im := api.Image{Incr: h.incr, Gen: h.gen, Prev: h.prev, PrevIdent: h.prevIdent}
	f := &im.Forest
	f.Envs = readAll(s, h, (*source).env)
	f.Caps = readAll(s, h, (*source).capability)
	f.Maps = readAll(s, h, (*source).mapped)
	for _, c := range readAll(s, h, (*source).class) {
		im.Keys = append(im.Keys, c.key)
		im.Refs = append(im.Refs, c.ref)
	}
	f.Pages = readAll(s, h, (*source).page)
	f.Outs = readAll(s, h, (*source).out)
	return im, s.fault
}

// readAll reads the next section.
func readAll[T any](s *source, h header, one func(*source) T) []T {
	count := h.parts[s.section].length / recordBytes[s.section]
	s.section++
	list := make([]T, count)
	for i := range list {
		list[i] = one(s)
	}
	return list
}

// want: holds must be true of what was read just now.
func (s *source) want(holds bool) {
	if !holds && s.fault == nil {
		s.fault = &Fault{s.section, ErrForm}
	}
}

func (s *source) env() api.EnvRec {
	e := api.EnvRec{Parent: s.orNone(), State: s.U8(), Frozen: s.flag(), Code: int(s.U32()), Bits: int(s.U32())}
	for i := range e.Regs.R {
		e.Regs.R[i] = s.U32()
	}
	e.Regs.PC = s.U32()
	e.Quota = api.Quota{Frames: s.U8(), Envs: s.U8(), Extents: s.U8()}
	return e
}

func (s *source) capability() api.CapRec {
	c := api.CapRec{Env: s.U8(), Slot: s.U8(), Kind: s.U8(), Rights: s.U8(), In: s.flag(), Obj: s.U16()}
	c.From = api.Place{Env: s.orNone(), Slot: s.orNone()}
	s.want((c.From.Env == -1) == (c.From.Slot == -1))
	return c
}

func (s *source) mapped() api.MapRec {
	return api.MapRec{Env: s.U8(), V: s.U8(), Slot: s.U8(), Write: s.flag()}
}

func (s *source) class() class {
	return class{key: api.Key{Serial: s.serial(), Mark: s.serial()}, ref: s.orNone()}
}

func (s *source) page() api.Page {
	var p api.Page
	for i := range p {
		p[i] = s.U32()
	}
	return p
}

func (s *source) out() api.OutRec {
	return api.OutRec{Kind: s.U8(), Serial: s.serial()}
}

func (s *source) orNone() int {
	v := s.U8()
	if v == minusOne {
		return -1
	}
	return v
}

func (s *source) flag() bool {
	v := s.U8()
	s.want(v <= 1)
	return v == 1
}

// serial: as a number from 0 on, one with the highest bit set is above the bound too.
func (s *source) serial() int {
	v := s.U64()
	s.want(uint64(v) <= api.MaxSerial)
	return v
}
