package ferry_test

import (
	"reflect"
	"slices"

	"amber/api"
)

// Forests without outs: small, great, or grown by fixed dice.

var none = api.Place{Env: -1, Slot: -1}

func smallest() api.Forest {
	return api.Forest{Envs: []api.EnvRec{{Parent: -1, Frozen: true}}}
}

// twoClasses: one environment with two frames, one of them mapped.
func twoClasses() api.Forest {
	return api.Forest{
		Envs:  []api.EnvRec{{Parent: -1, Frozen: true, State: api.Ready, Quota: api.Quota{Frames: 3}}},
		Caps:  []api.CapRec{{Kind: api.KindFrame, Rights: 15, In: true, From: none}, {Slot: 3, Kind: api.KindFrame, Rights: 8, In: true, Obj: 1, From: none}},
		Maps:  []api.MapRec{{V: 4, Write: true}},
		Pages: []api.Page{{1, 2, 3}, {5: 9, 31: api.MaxWord}},
	}
}

// greatest: as many records as a forest without outs can have, all their bytes by dice, so that little of it can be packed.
func greatest() api.Forest {
	d := dice(3)
	var f api.Forest
	for e := range api.MaxEnvs {
		rec := api.EnvRec{Parent: min(e, 1) - 1, State: d.below(5), Code: int(d.word()), Bits: int(d.word()), Frozen: e == 0 || d.one(2), Quota: api.Quota{Frames: 4}}
		for i := range rec.Regs.R {
			rec.Regs.R[i] = d.word()
		}
		rec.Regs.PC = d.word()
		f.Envs = append(f.Envs, rec)
		for slot := range api.MaxSlots {
			c := api.CapRec{Env: e, Slot: slot, Kind: api.KindEnv, Rights: d.below(16), In: true, Obj: d.below(api.MaxEnvs), From: none}
			if slot < 4 {
				c = api.CapRec{Env: e, Slot: slot, Kind: api.KindFrame, Rights: 15, In: true, Obj: len(f.Pages), From: none}
				f.Pages = append(f.Pages, d.page())
			}
			f.Caps = append(f.Caps, c)
		}
		for v := range api.MaxPages {
			f.Maps = append(f.Maps, api.MapRec{Env: e, V: v, Slot: d.below(4), Write: d.one(2)})
		}
	}
	f.Envs[0].Quota = api.Quota{Frames: api.MaxFrames, Envs: api.MaxEnvs - 1, Extents: api.MaxExtents}
	return f
}

func (d *dice) page() api.Page {
	var p api.Page
	for i := range p {
		p[i] = d.word()
	}
	return p
}

// grown: a forest that may be, by dice.
func grown(d *dice) api.Forest {
	f := api.Forest{Envs: grownEnvs(d)}
	classes := grownCaps(d, &f)
	ownAll(d, &f, classes)
	deriveSome(d, f.Caps)
	mapSome(d, &f)
	payAll(d, &f)
	for range classes {
		var page api.Page
		page[d.below(32)] = d.word()
		if d.one(4) {
			page = d.page()
		}
		f.Pages = append(f.Pages, page)
	}
	return f
}

func grownEnvs(d *dice) []api.EnvRec {
	envs := []api.EnvRec{{Parent: -1}}
	for range d.below(api.MaxEnvs) * d.below(2) {
		parent := len(envs) - 1
		for parent > 0 && d.one(2) {
			parent = envs[parent].Parent
		}
		envs = append(envs, api.EnvRec{Parent: parent})
	}
	for i := range envs {
		e := &envs[i]
		e.State, e.Code, e.Bits, e.Frozen = d.below(5), int(d.word()), int(d.word()), i == 0 || d.one(2)
		e.Regs.R[d.below(8)], e.Regs.PC = d.word(), d.word()
	}
	return envs
}

// grownCaps answers the number of classes. There are so few frames that the first environment can pay for all.
func grownCaps(d *dice, f *api.Forest) int {
	classes, frames := 0, 0
	for e := range f.Envs {
		for slot := d.below(6); slot < api.MaxSlots && frames < 50; slot += 1 + d.below(20) {
			c := api.CapRec{Env: e, Slot: slot, Kind: 1 + d.below(2), Rights: d.of(d.below(16), api.AllRights), In: true, From: none}
			if c.Kind == api.KindEnv {
				c.Obj = d.below(len(f.Envs))
			} else {
				frames++
				c.Obj = d.below(min(classes, 5) + 1)
				if d.one(3) {
					c.Obj = classes
				}
				classes = max(classes, c.Obj+1)
			}
			f.Caps = append(f.Caps, c)
		}
	}
	return classes
}

func ownAll(d *dice, f *api.Forest, classes int) {
	for class := range classes {
		var on []int
		for i, c := range f.Caps {
			if c.Kind == api.KindFrame && c.Obj == class {
				on = append(on, i)
			}
		}
		f.Caps[on[d.below(len(on))]].Rights |= api.Own
	}
}

// deriveSome derives each only from one that stands ahead of it, so that there is no ring.
func deriveSome(d *dice, caps []api.CapRec) {
	for i := range caps {
		c := &caps[i]
		from := caps[d.below(i+1)]
		at := api.Place{Env: from.Env, Slot: from.Slot}
		if at != (api.Place{Env: c.Env, Slot: c.Slot}) && from.Kind == c.Kind && from.Obj == c.Obj && from.Rights&api.Grant != 0 && c.Rights&^from.Rights == 0 {
			c.From = at
		}
	}
}

func mapSome(d *dice, f *api.Forest) {
	for e := range f.Envs {
		for v := range api.MaxPages {
			if len(f.Caps) == 0 || !d.one(3) {
				continue
			}
			c := f.Caps[d.below(len(f.Caps))]
			if c.Env == e && c.Kind == api.KindFrame && c.Rights&api.Read != 0 {
				f.Maps = append(f.Maps, api.MapRec{Env: e, V: v, Slot: c.Slot, Write: c.Rights&api.Write != 0 && d.one(2)})
			}
		}
	}
}

// payAll gives each environment just what it pays, or a little more, from the leaves up.
func payAll(d *dice, f *api.Forest) {
	more := 10
	for i := len(f.Envs) - 1; i >= 0; i-- {
		q := &f.Envs[i].Quota
		for _, c := range f.Caps {
			if c.Env == i && c.Kind == api.KindFrame {
				q.Frames++
			}
		}
		if more > 0 && d.one(3) {
			q.Frames++
			q.Extents++
			more--
		}
		if i > 0 {
			p := &f.Envs[f.Envs[i].Parent].Quota
			p.Frames, p.Envs, p.Extents = p.Frames+q.Frames, p.Envs+1+q.Envs, p.Extents+q.Extents
		}
	}
}

// cloned: nothing of it is shared with f, and no list is nil.
func cloned(f api.Forest) api.Forest {
	return api.Forest{
		Envs: append([]api.EnvRec{}, f.Envs...), Caps: append([]api.CapRec{}, f.Caps...), Maps: append([]api.MapRec{}, f.Maps...),
		Pages: append([]api.Page{}, f.Pages...), Outs: append([]api.OutRec{}, f.Outs...),
	}
}

// alike: a nil list and an empty one are the same.
func alike(a, b api.Forest) bool { return reflect.DeepEqual(cloned(a), cloned(b)) }

// imageOf: the image that a forest's cargo holds.
func imageOf(f api.Forest) api.Image {
	im := api.Image{Gen: 1, Forest: cloned(f)}
	for c := range f.Pages {
		im.Keys = append(im.Keys, api.Key{Serial: c + 1})
		im.Refs = append(im.Refs, -1)
	}
	return im
}

// withOut: the same forest, with a capability on something outside in the last free slot of its first environment.
func withOut(f api.Forest, out api.OutRec) api.Forest {
	f = cloned(f)
	at := slices.IndexFunc(f.Caps, func(c api.CapRec) bool { return c.Env > 0 })
	if at < 0 {
		at = len(f.Caps)
	}
	f.Caps = slices.Insert(f.Caps, at, api.CapRec{Slot: api.MaxSlots - 1, Kind: out.Kind, Rights: api.Read, From: none})
	f.Outs = []api.OutRec{out}
	f.Envs[0].Quota.Frames, f.Envs[0].Quota.Extents = api.MaxFrames, api.MaxExtents
	return f
}
