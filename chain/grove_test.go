package chain_test

import (
	"slices"
	"testing"

	"amber/api"
	"amber/image"
)

// What the tests share: forests that a tree can have, grown by fixed dice; frames that live from forest to forest; hands for lists.

type dice uint64

func (d *dice) below(n int) int {
	*d = *d*6364136223846793005 + 1442695040888963407
	return int(uint64(*d)>>33) % n
}

func (d *dice) word() uint32 { return uint32(d.below(1<<16))<<16 | uint32(d.below(1<<16)) }

// one tells something that happens once in n times.
func (d *dice) one(n int) bool { return d.below(n) == 0 }

func (d *dice) of(list ...int) int { return list[d.below(len(list))] }

var none = api.Place{Env: -1, Slot: -1}

// page: all its words are w.
func page(w uint32) api.Page {
	var p api.Page
	for i := range p {
		p[i] = w
	}
	return p
}

// held: the chapter's cap(slot, rights, class).
func held(slot, rights, class int) api.CapRec {
	return api.CapRec{Slot: slot, Kind: api.KindFrame, Rights: rights, In: true, Obj: class, From: none}
}

// plot: the chapter's one environment, with these capabilities and pages.
func plot(caps []api.CapRec, pages ...api.Page) api.Forest {
	return api.Forest{Envs: []api.EnvRec{{Parent: -1, Frozen: true, Quota: api.Quota{Frames: 9}}}, Caps: caps, Pages: pages}
}

// keysOf: pairs of a serial and a mark.
func keysOf(n ...int) []api.Key {
	var l []api.Key
	for i := 0; i < len(n); i += 2 {
		l = append(l, api.Key{Serial: n[i], Mark: n[i+1]})
	}
	return l
}

// The chapter's forests.
func f1() api.Forest {
	return plot([]api.CapRec{held(0, 15, 0), held(1, 15, 1)}, page(1), page(2))
}

func f2() api.Forest {
	return plot([]api.CapRec{held(0, 15, 0), held(1, 15, 1)}, page(1), page(1))
}

func f3() api.Forest {
	return plot([]api.CapRec{held(0, 15, 1), held(1, 15, 0)}, page(2), page(1))
}

func f4() api.Forest {
	return plot([]api.CapRec{held(1, 15, 1), held(0, 15, 0)}, page(1), page(2))
}

// grown: a forest that a tree can have, with records of all kinds; its pages are all different.
func grown(d *dice) api.Forest {
	f := api.Forest{Envs: grownEnvs(d)}
	frames, extents := 0, 0
	for e := range f.Envs {
		for slot := d.below(9); slot < api.MaxSlots && frames < 60 && extents < 30; slot += 1 + d.below(15) {
			c := api.CapRec{Env: e, Slot: slot, Kind: d.of(1, 1, 2, 3), Rights: d.of(15, 15, d.below(16)), In: !d.one(3), From: none}
			switch {
			case c.Kind == api.KindExtent:
				c.In = false
				extents++
			case c.Kind == api.KindFrame:
				frames++
			}
			give(d, &f, &c)
			f.Caps = append(f.Caps, c)
		}
	}
	ownAll(&f)
	deriveSome(d, f.Caps)
	mapSome(d, &f)
	payAll(&f)
	return f
}

func grownEnvs(d *dice) []api.EnvRec {
	envs := []api.EnvRec{{Parent: -1, Frozen: true}}
	for range d.of(0, d.below(4), d.below(api.MaxEnvs)) {
		parent := len(envs) - 1
		for parent > 0 && d.one(2) {
			parent = envs[parent].Parent
		}
		envs = append(envs, api.EnvRec{Parent: parent, Frozen: d.one(2)})
	}
	for i := range envs {
		e := &envs[i]
		e.State, e.Code, e.Bits = d.below(5), int(d.word()), int(d.word())
		e.Regs.R[d.below(8)], e.Regs.PC = d.word(), d.word()
	}
	return envs
}

// give names a thing that was named before, or the next new one.
func give(d *dice, f *api.Forest, c *api.CapRec) {
	switch {
	case c.In && c.Kind == api.KindEnv:
		c.Obj = d.below(len(f.Envs))
	case c.In:
		c.Obj = d.of(d.below(len(f.Pages)+1), len(f.Pages))
		if c.Obj == len(f.Pages) {
			f.Pages = append(f.Pages, api.Page{0: uint32(c.Obj), 1: d.word(), 31: d.word()})
		}
	default:
		if c.Kind == api.KindFrame {
			c.Rights &^= api.Own
		}
		c.Obj = d.below(len(f.Outs)+2) % (len(f.Outs) + 1)
		if c.Obj == len(f.Outs) || f.Outs[c.Obj].Kind != c.Kind {
			c.Obj = len(f.Outs)
			f.Outs = append(f.Outs, api.OutRec{Kind: c.Kind, Serial: c.Obj + 1 + 1000*d.below(1<<30)})
		}
	}
}

func onClass(c api.CapRec) bool { return c.In && c.Kind == api.KindFrame }

func ownAll(f *api.Forest) {
	for class := range f.Pages {
		i := slices.IndexFunc(f.Caps, func(c api.CapRec) bool { return onClass(c) && c.Obj == class })
		f.Caps[i].Rights |= api.Own
	}
}

// deriveSome derives from capabilities further ahead alone: so there is no ring.
func deriveSome(d *dice, caps []api.CapRec) {
	for i := range caps {
		c := &caps[i]
		for _, from := range caps[:i] {
			if d.one(2) && from.Kind == c.Kind && from.In == c.In && from.Obj == c.Obj && from.Rights&(api.Grant|c.Rights) == api.Grant|c.Rights {
				c.From = api.Place{Env: from.Env, Slot: from.Slot}
			}
		}
	}
}

func mapSome(d *dice, f *api.Forest) {
	for e := range f.Envs {
		for v := range api.MaxPages {
			if len(f.Caps) == 0 || !d.one(2) {
				continue
			}
			c := f.Caps[d.below(len(f.Caps))]
			if c.Env == e && c.Kind == api.KindFrame && c.Rights&api.Read != 0 {
				f.Maps = append(f.Maps, api.MapRec{Env: e, V: v, Slot: c.Slot, Write: c.Rights&api.Write != 0 && d.one(2)})
			}
		}
	}
}

// payAll gives each environment just what it pays, from the leaves up.
func payAll(f *api.Forest) {
	for i := len(f.Envs) - 1; i >= 0; i-- {
		q := &f.Envs[i].Quota
		for _, c := range f.Caps {
			if c.Env == i && c.Kind == api.KindFrame {
				q.Frames++
			}
			if c.Env == i && c.Kind == api.KindExtent {
				q.Extents++
			}
		}
		if i > 0 {
			p := &f.Envs[f.Envs[i].Parent].Quota
			p.Frames, p.Envs, p.Extents = p.Frames+q.Frames, p.Envs+1+q.Envs, p.Extents+q.Extents
		}
	}
}

// greatest: as many environments, slots, classes, outs and pages as a tree can have at once.
func greatest() api.Forest {
	var f api.Forest
	for e := range api.MaxEnvs {
		f.Envs = append(f.Envs, api.EnvRec{Parent: min(e, 1) - 1, Frozen: true, Quota: api.Quota{Frames: 4}})
		for slot := range api.MaxSlots {
			c := api.CapRec{Env: e, Slot: slot, Kind: api.KindFrame, Rights: api.AllRights, In: true, Obj: len(f.Pages), From: none}
			if slot < 4 {
				f.Pages = append(f.Pages, page(uint32(len(f.Pages))))
			} else {
				c.Kind, c.In, c.Obj = api.KindEnv, false, len(f.Outs)
				f.Outs = append(f.Outs, api.OutRec{Kind: api.KindEnv, Serial: api.MaxSerial - len(f.Outs)})
			}
			f.Caps = append(f.Caps, c)
		}
		for v := range api.MaxPages {
			f.Maps = append(f.Maps, api.MapRec{Env: e, V: v, Slot: v % 4, Write: true})
		}
	}
	f.Envs[0].Quota = api.Quota{Frames: api.MaxFrames, Envs: api.MaxEnvs - 1, Extents: api.MaxExtents}
	return f
}

// TestGrove: the tests' own forests may be, and they are of many kinds.
func TestGrove(t *testing.T) {
	classes, shared, outs, derived, maps := 0, 0, 0, 0, 0
	for seed := range 300 {
		d := dice(seed)
		f := grown(&d)
		if err := image.Valid(f); err != nil {
			t.Fatalf("seed %d: %v: %+v", seed, err, f)
		}
		classes, outs, maps = classes+len(f.Pages), outs+len(f.Outs), maps+len(f.Maps)
		for _, c := range f.Caps {
			if onClass(c) {
				shared++
			}
			if c.From != none {
				derived++
			}
		}
	}
	if classes < 1500 || shared < classes+500 || outs < 2000 || derived < 300 || maps < 800 {
		t.Errorf("the grove is poor: %d classes, %d capabilities on them, %d outs, %d derived, %d mapped", classes, shared, outs, derived, maps)
	}
	if err := image.Valid(greatest()); err != nil {
		t.Errorf("the greatest: %v", err)
	}
}

// frame: what a class is made of: a key, and the page that stands under it.
type frame struct {
	key  api.Key
	page api.Page
}

// pool: frames that live from forest to forest, and the next serial.
type pool struct {
	frames []frame
	serial int
}

func newPool(d *dice) *pool {
	p := &pool{serial: d.of(1, 1<<20, 1<<60)}
	for range api.MaxFrames {
		p.frames = append(p.frames, frame{key: api.Key{Serial: p.next(), Mark: p.next() * d.of(0, 1, 1, 1)}, page: page(d.word())})
	}
	return p
}

func (p *pool) next() int {
	p.serial++
	return p.serial
}

// stir writes to some frames: each takes a new mark with its new page, or has none; some frames die, and others come.
func (p *pool) stir(d *dice) {
	for i := range p.frames {
		f := &p.frames[i]
		switch d.below(6) {
		case 0:
			f.page[d.below(32)] = d.word()
			f.key.Mark = p.next()
		case 1:
			*f = frame{key: api.Key{Serial: p.next(), Mark: p.next() * d.of(0, 1, 1, 1)}, page: page(d.word())}
		}
		if f.key.Mark == 0 {
			f.page[d.below(32)] = d.word()
		}
	}
}

// told: the forest with the pages of some of the frames, and their keys.
func (p *pool) told(d *dice, f api.Forest) (api.Forest, []api.Key) {
	f.Pages = slices.Clone(f.Pages)
	var keys []api.Key
	at := d.below(5)
	for class := range f.Pages {
		x := p.frames[(at+class)%len(p.frames)]
		f.Pages[class] = x.page
		keys = append(keys, x.key)
	}
	return f, keys
}

func cloned(f api.Forest) api.Forest {
	return api.Forest{Envs: slices.Clone(f.Envs), Caps: slices.Clone(f.Caps), Maps: slices.Clone(f.Maps), Pages: slices.Clone(f.Pages), Outs: slices.Clone(f.Outs)}
}

func clonedImage(im api.Image) api.Image {
	im.Forest, im.Keys, im.Refs = cloned(im.Forest), slices.Clone(im.Keys), slices.Clone(im.Refs)
	return im
}

// alike: equal, nil and empty being one.
func alike(a, b api.Forest) bool {
	return slices.Equal(a.Envs, b.Envs) && slices.Equal(a.Caps, b.Caps) && slices.Equal(a.Maps, b.Maps) && slices.Equal(a.Pages, b.Pages) && slices.Equal(a.Outs, b.Outs)
}

func alikeFolds(a, b api.Folded) bool {
	return alike(a.Forest, b.Forest) && slices.Equal(a.Keys, b.Keys) && a.Gen == b.Gen
}

func alikeImages(a, b api.Image) bool {
	return a.Incr == b.Incr && a.Gen == b.Gen && a.Prev == b.Prev && a.PrevIdent == b.PrevIdent && alike(a.Forest, b.Forest) && slices.Equal(a.Keys, b.Keys) && slices.Equal(a.Refs, b.Refs)
}

func encoded(t *testing.T, im api.Image) []byte {
	t.Helper()
	b, err := image.Encode(im)
	if err != nil {
		t.Fatalf("Encode: %v: %+v", err, im)
	}
	return b
}
