package image_test

import (
	"bytes"
	"errors"
	"reflect"
	"slices"
	"testing"

	"amber/api"
	"amber/crc"
	"amber/image"
)

// What the tests share: images that may be, small, rich, great, or grown by fixed dice; and hands for their bytes.

type dice uint64

func (d *dice) below(n int) int {
	*d = *d*6364136223846793005 + 1442695040888963407
	return int(uint64(*d)>>33) % n
}

func (d *dice) word() uint32 { return uint32(d.below(1<<16))<<16 | uint32(d.below(1<<16)) }

// one tells something that happens once in n times.
func (d *dice) one(n int) bool { return d.below(n) == 0 }

// serial: small ones, great ones, and the greatest.
func (d *dice) serial() int {
	return []int{1 + d.below(90), 1 + d.below(1<<31)<<30, api.MaxSerial - d.below(3)}[d.below(3)]
}

var none = api.Place{Env: -1, Slot: -1}

func smallest() api.Image {
	return api.Image{Gen: 1, Forest: api.Forest{Envs: []api.EnvRec{{Parent: -1, Frozen: true}}}}
}

// rich: three environments, three classes of which one's page stands here, three outs, derivations in and between lists.
func rich() api.Image {
	return api.Image{
		Incr: true, Gen: 0x01020304, Prev: 0x01020303, PrevIdent: 0xa1b2c3d4,
		Forest: api.Forest{
			Envs: []api.EnvRec{
				{Parent: -1, State: 1, Code: 0x11121314, Bits: 0x21222324, Frozen: true, Regs: api.Regs{R: [8]uint32{1, 2, 3, 4, 5, 6, 7, 0x31323334}, PC: 0x41424344}, Quota: api.Quota{Frames: 8, Envs: 3, Extents: 4}},
				{Parent: 0, State: 4, Code: 62, Frozen: true, Quota: api.Quota{Frames: 4, Envs: 1, Extents: 2}},
				{Parent: 1, State: 2, Bits: api.MaxWord, Quota: api.Quota{Frames: 2, Envs: 0, Extents: 1}},
			},
			Caps: []api.CapRec{
				{Env: 0, Slot: 1, Kind: api.KindFrame, Rights: 15, In: true, Obj: 0, From: none},
				{Env: 0, Slot: 2, Kind: api.KindFrame, Rights: 7, Obj: 0, From: none},
				{Env: 0, Slot: 3, Kind: api.KindEnv, Rights: 15, In: true, Obj: 1, From: none},
				{Env: 0, Slot: 47, Kind: api.KindFrame, Rights: 15, In: true, Obj: 1, From: none},
				{Env: 1, Slot: 0, Kind: api.KindExtent, Rights: 15, Obj: 1, From: none},
				{Env: 1, Slot: 1, Kind: api.KindFrame, Rights: 5, In: true, Obj: 0, From: api.Place{Env: 0, Slot: 1}},
				{Env: 1, Slot: 4, Kind: api.KindEnv, Rights: 12, Obj: 2, From: none},
				{Env: 1, Slot: 5, Kind: api.KindFrame, Rights: 11, In: true, Obj: 2, From: none},
				{Env: 2, Slot: 0, Kind: api.KindFrame, Rights: 1, In: true, Obj: 0, From: api.Place{Env: 1, Slot: 1}},
				{Env: 2, Slot: 7, Kind: api.KindFrame, Rights: 3, Obj: 0, From: api.Place{Env: 0, Slot: 2}},
				{Env: 2, Slot: 9, Kind: api.KindExtent, Rights: 6, Obj: 1, From: api.Place{Env: 1, Slot: 0}},
				{Env: 2, Slot: 10, Kind: api.KindEnv, Rights: 3, In: true, Obj: 2, From: none},
			},
			Maps: []api.MapRec{
				{Env: 0, V: 0, Slot: 1, Write: true}, {Env: 0, V: 15, Slot: 1}, {Env: 1, V: 3, Slot: 1}, {Env: 2, V: 0, Slot: 7, Write: true}, {Env: 2, V: 1, Slot: 0},
			},
			Pages: []api.Page{{0: 0x51525354, 31: 0x61626364}},
			Outs:  []api.OutRec{{Kind: 1, Serial: 0x0102030405060708}, {Kind: 3, Serial: 9}, {Kind: 2, Serial: 9}},
		},
		Keys: []api.Key{{Serial: 5, Mark: 0}, {Serial: 0x1112131415161718, Mark: 0x2122232425262728}, {Serial: 7, Mark: api.MaxSerial}},
		Refs: []int{63, -1, 0},
	}
}

// greatest: as many records of each kind as an image can have at once.
func greatest() api.Image {
	im := api.Image{Gen: api.MaxGen}
	f := &im.Forest
	for e := range api.MaxEnvs {
		f.Envs = append(f.Envs, api.EnvRec{Parent: min(e, 1) - 1, State: api.Faulted, Code: api.MaxWord, Bits: api.MaxWord, Frozen: true, Quota: api.Quota{Frames: 4}})
		for slot := range api.MaxSlots {
			c := api.CapRec{Env: e, Slot: slot, Kind: api.KindFrame, Rights: api.AllRights, In: true, Obj: len(im.Keys), From: none}
			if slot < 4 {
				im.Keys = append(im.Keys, api.Key{Serial: api.MaxSerial - len(im.Keys), Mark: api.MaxSerial})
				im.Refs = append(im.Refs, -1)
				f.Pages = append(f.Pages, api.Page{0: api.MaxWord, 31: uint32(e)})
			} else {
				c.Kind, c.In, c.Obj = api.KindEnv, false, len(f.Outs)
				f.Outs = append(f.Outs, api.OutRec{Kind: api.KindEnv, Serial: api.MaxSerial - len(f.Outs)})
			}
			f.Caps = append(f.Caps, c)
		}
		for v := range api.MaxPages {
			f.Maps = append(f.Maps, api.MapRec{Env: e, V: v, Slot: v % 4, Write: true})
		}
	}
	f.Envs[0].Quota = api.Quota{Frames: api.MaxFrames, Envs: api.MaxEnvs - 1, Extents: api.MaxExtents}
	return im
}

// grown: an image that may be, by dice.
func grown(d *dice) api.Image {
	im := api.Image{Gen: 1 + d.below(api.MaxGen), Forest: api.Forest{Envs: grownEnvs(d)}}
	if d.one(2) {
		im.Incr, im.Prev, im.Gen, im.PrevIdent = true, im.Gen, im.Gen+1, d.word()
		if im.Gen > api.MaxGen {
			im.Prev, im.Gen = api.MaxGen-1, api.MaxGen
		}
	}
	classes := grownCaps(d, &im.Forest)
	ownAll(d, &im.Forest, classes)
	deriveSome(d, im.Forest.Caps)
	mapSome(d, &im.Forest)
	payAll(d, &im.Forest)
	for len(im.Keys) < classes {
		key := api.Key{Serial: d.serial(), Mark: d.serial() * d.below(2)}
		if slices.ContainsFunc(im.Keys, func(k api.Key) bool { return k.Serial == key.Serial }) {
			continue
		}
		im.Keys = append(im.Keys, key)
		ref := -1
		if im.Incr && d.one(2) {
			ref = d.below(api.MaxFrames)
		}
		im.Refs = append(im.Refs, ref)
		if ref == -1 {
			page := api.Page{31: d.word()}
			page[d.below(32)] = d.word()
			im.Forest.Pages = append(im.Forest.Pages, page)
		}
	}
	return im
}

func grownEnvs(d *dice) []api.EnvRec {
	envs := []api.EnvRec{{Parent: -1}}
	for range d.below(api.MaxEnvs) * d.below(2) {
		parent := len(envs) - 1
		for parent > 0 && d.one(2) {
			parent = envs[parent].Parent
		}
		envs = append(envs, api.EnvRec{Parent: parent})
	}
	for i := range envs {
		e := &envs[i]
		e.State, e.Code, e.Bits, e.Frozen = d.below(5), int(d.word()), int(d.word()), i == 0 || d.one(2)
		e.Regs.R[d.below(8)], e.Regs.PC = d.word(), d.word()
	}
	return envs
}

// grownCaps answers the number of classes. There are so few frames and extents that the first environment can pay for all.
func grownCaps(d *dice, f *api.Forest) int {
	classes, frames, extents := 0, 0, 0
	for e := range f.Envs {
		for slot := d.below(6); slot < api.MaxSlots; slot += 1 + d.below(20) {
			c := api.CapRec{Env: e, Slot: slot, Kind: 1 + d.below(3), Rights: d.below(16), In: d.one(2), From: none}
			if d.one(3) {
				c.Rights = api.AllRights
			}
			if c.Kind == api.KindExtent {
				c.In = false
				extents++
			} else if c.Kind == api.KindFrame {
				frames++
			}
			if frames > 50 || extents > 25 {
				return classes
			}
			switch {
			case c.In && c.Kind == api.KindEnv:
				c.Obj = d.below(len(f.Envs))
			case c.In:
				c.Obj = d.below(min(classes, 5) + 1)
				classes = max(classes, c.Obj+1)
			default:
				c.Obj = grownOut(d, f, c.Kind)
				if c.Kind == api.KindFrame {
					c.Rights &^= api.Own
				}
			}
			f.Caps = append(f.Caps, c)
		}
	}
	return classes
}

func grownOut(d *dice, f *api.Forest, kind int) int {
	o := api.OutRec{Kind: kind, Serial: d.serial()}
	for i, other := range f.Outs {
		if other == o || other.Kind == kind && d.one(2) {
			return i
		}
	}
	f.Outs = append(f.Outs, o)
	return len(f.Outs) - 1
}

func onClass(c api.CapRec, class int) bool {
	return c.In && c.Kind == api.KindFrame && c.Obj == class
}

func ownAll(d *dice, f *api.Forest, classes int) {
	for class := range classes {
		var on []int
		for i, c := range f.Caps {
			if onClass(c, class) {
				on = append(on, i)
			}
		}
		f.Caps[on[d.below(len(on))]].Rights |= api.Own
	}
}

func deriveSome(d *dice, caps []api.CapRec) {
	for i := range caps {
		c := &caps[i]
		from := caps[d.below(len(caps))]
		if from.Kind != c.Kind || from.In != c.In || from.Obj != c.Obj || from.Rights&api.Grant == 0 || c.Rights&^from.Rights != 0 {
			continue
		}
		if !below(caps, api.Place{Env: from.Env, Slot: from.Slot}, api.Place{Env: c.Env, Slot: c.Slot}) {
			c.From = api.Place{Env: from.Env, Slot: from.Slot}
		}
	}
}

// below tells whether p is q or derived from it.
func below(caps []api.CapRec, p, q api.Place) bool {
	for p != none && p != q {
		at := slices.IndexFunc(caps, func(c api.CapRec) bool { return c.Env == p.Env && c.Slot == p.Slot })
		p = caps[at].From
	}
	return p == q
}

func mapSome(d *dice, f *api.Forest) {
	for e := range f.Envs {
		for v := range api.MaxPages {
			if len(f.Caps) == 0 || !d.one(3) {
				continue
			}
			c := f.Caps[d.below(len(f.Caps))]
			if c.Env == e && c.Kind == api.KindFrame && c.Rights&api.Read != 0 {
				f.Maps = append(f.Maps, api.MapRec{Env: e, V: v, Slot: c.Slot, Write: c.Rights&api.Write != 0 && d.one(2)})
			}
		}
	}
}

// payAll gives each environment just what it pays, or a little more, from the leaves up.
func payAll(d *dice, f *api.Forest) {
	more := 10
	for i := len(f.Envs) - 1; i >= 0; i-- {
		q := &f.Envs[i].Quota
		for _, c := range f.Caps {
			if c.Env == i && c.Kind == api.KindFrame {
				q.Frames++
			}
			if c.Env == i && c.Kind == api.KindExtent {
				q.Extents++
			}
		}
		if more > 0 && d.one(3) {
			q.Frames++
			more--
		}
		if i > 0 {
			p := &f.Envs[f.Envs[i].Parent].Quota
			p.Frames, p.Envs, p.Extents = p.Frames+q.Frames, p.Envs+1+q.Envs, p.Extents+q.Extents
		}
	}
}

// cloned: nothing of it is shared with im.
func cloned(im api.Image) api.Image {
	f := &im.Forest
	f.Envs, f.Caps, f.Maps = slices.Clone(f.Envs), slices.Clone(f.Caps), slices.Clone(f.Maps)
	f.Pages, f.Outs = slices.Clone(f.Pages), slices.Clone(f.Outs)
	im.Keys, im.Refs = slices.Clone(im.Keys), slices.Clone(im.Refs)
	return im
}

// alike: a nil list and an empty one are the same.
func alike(a, b api.Image) bool {
	for _, im := range []*api.Image{&a, &b} {
		*im = cloned(*im)
		f := &im.Forest
		f.Envs, f.Caps, f.Maps = append([]api.EnvRec{}, f.Envs...), append([]api.CapRec{}, f.Caps...), append([]api.MapRec{}, f.Maps...)
		f.Pages, f.Outs = append([]api.Page{}, f.Pages...), append([]api.OutRec{}, f.Outs...)
		im.Keys, im.Refs = append([]api.Key{}, im.Keys...), append([]int{}, im.Refs...)
	}
	return reflect.DeepEqual(a, b)
}

func number(b []byte, at int) int {
	return int(b[at]) | int(b[at+1])<<8 | int(b[at+2])<<16 | int(b[at+3])<<24
}

func put(b []byte, at int, v uint32) {
	for i := range 4 {
		b[at+i] = byte(v >> (8 * i))
	}
}

// edited: a copy with bytes laid over it from at on.
func edited(b []byte, at int, over ...byte) []byte {
	b = bytes.Clone(b)
	copy(b[at:], over)
	return b
}

// headed: a copy whose header's sum is right.
func headed(b []byte) []byte {
	b = bytes.Clone(b)
	put(b, 72, crc.Sum(b[:72]))
	return b
}

// sealed: a copy whose sums are all right, those of the sections by the lengths that the header tells.
func sealed(b []byte) []byte {
	b = bytes.Clone(b)
	at := 76
	for s := range 6 {
		end := min(at+number(b, 20+8*s), len(b))
		put(b, 24+8*s, crc.Sum(b[at:end]))
		at = end
	}
	put(b, 68, crc.Sum(b[76:]))
	return headed(b)
}

func encoded(t *testing.T, im api.Image) []byte {
	t.Helper()
	b, err := image.Encode(im)
	if err != nil {
		t.Fatalf("P13.1: Encode of %+v: %v", im, err)
	}
	return b
}

// told holds an error against a sentinel and its section; want nil: there must be none.
func told(t *testing.T, what string, err, want error, section int) {
	t.Helper()
	if want == nil {
		if err != nil {
			t.Errorf("%s: %v, want none", what, err)
		}
		return
	}
	var f *image.Fault
	if !errors.As(err, &f) || f.Section != section || f.Err != want || !errors.Is(err, want) {
		t.Errorf("%s: %v, want %v in section %d", what, err, want, section)
	}
}
