package image_test

import (
	"amber/api"
	"amber/crc"
	"amber/image"
)

// The document's rules once more, word by word and apart from the package's own way: what it must answer, at anything.

// fine: no section: nothing is wrong.
const fine = -2

func oneOf(v, low, high int) bool { return v >= low && v <= high }

// checkModel answers the section of the first rule that is broken.
func checkModel(im api.Image) int {
	switch {
	case im.Gen < 1 || im.Gen > 4294967295,
		!im.Incr && (im.Prev != 0 || im.PrevIdent != 0),
		im.Incr && (im.Prev < 1 || im.Prev > 4294967295 || im.Gen != im.Prev+1):
		return 0
	}
	if len(im.Keys) > 64 || len(im.Refs) != len(im.Keys) {
		return 4
	}
	own := 0
	for i, k := range im.Keys {
		if k.Serial < 1 || k.Serial >= 1<<62 || k.Mark < 0 || k.Mark >= 1<<62 {
			return 4
		}
		for _, other := range im.Keys[:i] {
			if other.Serial == k.Serial {
				return 4
			}
		}
		switch ref := im.Refs[i]; {
		case ref == -1:
			own++
		case !im.Incr || ref < 0 || ref > 63:
			return 4
		}
	}
	if len(im.Forest.Pages) != own {
		return 5
	}
	return forestModel(im.Forest, len(im.Keys))
}

func validModel(f api.Forest) int {
	if len(f.Pages) > 64 {
		return 5
	}
	return forestModel(f, len(f.Pages))
}

func forestModel(f api.Forest, classes int) int {
	switch {
	case !envsModel(f.Envs):
		return 1
	case !outsModel(f.Outs):
		return 6
	case !capsModel(f, classes) || !sightModel(f, classes) || !ownModel(f, classes) || !fromModel(f.Caps):
		return 2
	case !mapsModel(f):
		return 3
	case !quotaModel(f):
		return 1
	}
	return fine
}

// envsModel keeps the way from the root down to the environment ahead.
func envsModel(envs []api.EnvRec) bool {
	if len(envs) < 1 || len(envs) > 16 || envs[0].Parent != -1 || !envs[0].Frozen {
		return false
	}
	way := []int{0}
	for i, e := range envs {
		if i > 0 {
			for len(way) > 0 && way[len(way)-1] != e.Parent {
				way = way[:len(way)-1]
			}
			if len(way) == 0 {
				return false
			}
			way = append(way, i)
		}
		q := e.Quota
		if !oneOf(e.State, 0, 4) || !oneOf(e.Code, 0, 4294967295) || !oneOf(e.Bits, 0, 4294967295) || !oneOf(q.Frames, 0, 64) || !oneOf(q.Envs, 0, 15) || !oneOf(q.Extents, 0, 32) {
			return false
		}
	}
	return true
}

func outsModel(outs []api.OutRec) bool {
	for i, o := range outs {
		if !oneOf(o.Kind, 1, 3) || !oneOf(o.Serial, 1, 1<<62-1) {
			return false
		}
		for _, other := range outs[:i] {
			if other == o {
				return false
			}
		}
	}
	return true
}

func capsModel(f api.Forest, classes int) bool {
	for i, c := range f.Caps {
		if !oneOf(c.Env, 0, len(f.Envs)-1) || !oneOf(c.Slot, 0, 47) || !oneOf(c.Kind, 1, 3) || !oneOf(c.Rights, 0, 15) {
			return false
		}
		if i > 0 && (c.Env < f.Caps[i-1].Env || c.Env == f.Caps[i-1].Env && c.Slot <= f.Caps[i-1].Slot) {
			return false
		}
		if c.In {
			if c.Kind == 3 || c.Kind == 2 && !oneOf(c.Obj, 0, len(f.Envs)-1) || c.Kind == 1 && !oneOf(c.Obj, 0, classes-1) {
				return false
			}
		} else if !oneOf(c.Obj, 0, len(f.Outs)-1) || f.Outs[c.Obj].Kind != c.Kind {
			return false
		}
	}
	return true
}

func sightModel(f api.Forest, classes int) bool {
	named := [2][]bool{make([]bool, classes), make([]bool, len(f.Outs))}
	for _, c := range f.Caps {
		if c.In && c.Kind == 2 {
			continue
		}
		seen := named[1]
		if c.In {
			seen = named[0]
		}
		for lower := range c.Obj {
			if !seen[c.Obj] && !seen[lower] {
				return false
			}
		}
		seen[c.Obj] = true
	}
	for _, seen := range append(named[0], named[1]...) {
		if !seen {
			return false
		}
	}
	return true
}

func ownModel(f api.Forest, classes int) bool {
	for class := range classes {
		owned := false
		for _, c := range f.Caps {
			owned = owned || onClass(c, class) && c.Rights >= 8
		}
		if !owned {
			return false
		}
	}
	for _, c := range f.Caps {
		if !c.In && c.Kind == 1 && c.Rights >= 8 {
			return false
		}
	}
	return true
}

func fromModel(caps []api.CapRec) bool {
	above := func(c api.CapRec) (api.CapRec, bool) {
		for _, other := range caps {
			if c.From.Env == other.Env && c.From.Slot == other.Slot {
				return other, true
			}
		}
		return api.CapRec{}, false
	}
	for _, c := range caps {
		at := c
		for steps := 0; at.From != none; steps++ {
			from, there := above(at)
			if !there || steps > len(caps) || from.Kind != c.Kind || from.In != c.In || from.Obj != c.Obj || from.Rights&4 == 0 || at.Rights&^from.Rights != 0 {
				return false
			}
			at = from
		}
	}
	return true
}

func mapsModel(f api.Forest) bool {
	for i, m := range f.Maps {
		if !oneOf(m.Env, 0, len(f.Envs)-1) || !oneOf(m.V, 0, 15) {
			return false
		}
		if i > 0 && (m.Env < f.Maps[i-1].Env || m.Env == f.Maps[i-1].Env && m.V <= f.Maps[i-1].V) {
			return false
		}
		good := false
		for _, c := range f.Caps {
			good = good || c.Env == m.Env && c.Slot == m.Slot && c.Kind == 1 && c.Rights&1 != 0 && (c.Rights&2 != 0 || !m.Write)
		}
		if !good {
			return false
		}
	}
	return true
}

func quotaModel(f api.Forest) bool {
	for i, e := range f.Envs {
		left := e.Quota
		for _, c := range f.Caps {
			if c.Env == i && c.Kind == 1 {
				left.Frames--
			}
			if c.Env == i && c.Kind == 3 {
				left.Extents--
			}
		}
		for _, child := range f.Envs {
			if child.Parent == i {
				left.Frames -= child.Quota.Frames
				left.Envs -= 1 + child.Quota.Envs
				left.Extents -= child.Quota.Extents
			}
		}
		if left.Frames < 0 || left.Envs < 0 || left.Extents < 0 {
			return false
		}
	}
	return true
}

// decodeModel answers the sentinel and its section, or nil and fine.
func decodeModel(b []byte) (api.Image, error, int) {
	none := api.Image{}
	switch {
	case len(b) > 32768:
		return none, image.ErrSize, -1
	case len(b) < 76:
		return none, image.ErrShort, 0
	case string(b[:4]) != "AMBR":
		return none, image.ErrMagic, 0
	case uint32(number(b, 72)) != crc.Sum(b[:72]):
		return none, image.ErrHeader, 0
	case b[4] != 1 || b[5] != 0:
		return none, image.ErrVersion, 0
	case b[6] > 1 || b[7] != 6:
		return none, image.ErrForm, 0
	}
	if err, section := guardModel(b); err != nil {
		return none, err, section
	}
	if section := formModel(b); section != fine {
		return none, image.ErrForm, section
	}
	im := imageModel(b)
	if section := checkModel(im); section != fine {
		return none, image.ErrForest, section
	}
	return im, nil, fine
}

// bounds: where section s begins, and where it ends.
func bounds(b []byte, s int) (int, int) {
	at := 76
	for i := 1; i < s; i++ {
		at += number(b, 12+8*i)
	}
	return at, at + number(b, 12+8*s)
}

var sizes = []int{0, 50, 9, 4, 17, 128, 9}

func guardModel(b []byte) (error, int) {
	if _, end := bounds(b, 6); end != len(b) {
		return image.ErrLength, 0
	}
	for s := 1; s <= 6; s++ {
		if number(b, 12+8*s)%sizes[s] != 0 {
			return image.ErrLength, s
		}
	}
	for s := 1; s <= 6; s++ {
		begin, end := bounds(b, s)
		if crc.Sum(b[begin:end]) != uint32(number(b, 16+8*s)) {
			return image.ErrSum, s
		}
	}
	if crc.Sum(b[76:]) != uint32(number(b, 68)) {
		return image.ErrSum, 0
	}
	return nil, fine
}

// recordsOf cuts a section into its records.
func recordsOf(b []byte, s int) [][]byte {
	var out [][]byte
	for begin, end := bounds(b, s); begin < end; begin += sizes[s] {
		out = append(out, b[begin:begin+sizes[s]])
	}
	return out
}

func formModel(b []byte) int {
	for s := 1; s <= 6; s++ {
		for _, r := range recordsOf(b, s) {
			switch {
			case s == 1 && r[2] > 1,
				s == 2 && (r[4] > 1 || (r[7] == 255) != (r[8] == 255)),
				s == 3 && r[3] > 1,
				s == 4 && (r[7] > 63 || r[15] > 63),
				s == 6 && r[8] > 63:
				return s
			}
		}
	}
	return fine
}

func signed(b byte) int {
	if b == 255 {
		return -1
	}
	return int(b)
}

func great(b []byte) int { return number(b, 0) | number(b, 4)<<32 }

func imageModel(b []byte) api.Image {
	im := api.Image{Incr: b[6] == 1, Gen: number(b, 8), Prev: number(b, 12), PrevIdent: uint32(number(b, 16))}
	f := &im.Forest
	for _, r := range recordsOf(b, 1) {
		e := api.EnvRec{Parent: signed(r[0]), State: int(r[1]), Frozen: r[2] == 1, Code: number(r, 3), Bits: number(r, 7)}
		for i := range 8 {
			e.Regs.R[i] = uint32(number(r, 11+4*i))
		}
		e.Regs.PC = uint32(number(r, 43))
		e.Quota = api.Quota{Frames: int(r[47]), Envs: int(r[48]), Extents: int(r[49])}
		f.Envs = append(f.Envs, e)
	}
	for _, r := range recordsOf(b, 2) {
		f.Caps = append(f.Caps, api.CapRec{Env: int(r[0]), Slot: int(r[1]), Kind: int(r[2]), Rights: int(r[3]), In: r[4] == 1, Obj: int(r[5]) | int(r[6])<<8, From: api.Place{Env: signed(r[7]), Slot: signed(r[8])}})
	}
	for _, r := range recordsOf(b, 3) {
		f.Maps = append(f.Maps, api.MapRec{Env: int(r[0]), V: int(r[1]), Slot: int(r[2]), Write: r[3] == 1})
	}
	for _, r := range recordsOf(b, 4) {
		im.Keys = append(im.Keys, api.Key{Serial: great(r), Mark: great(r[8:])})
		im.Refs = append(im.Refs, signed(r[16]))
	}
	for _, r := range recordsOf(b, 5) {
		var p api.Page
		for i := range p {
			p[i] = uint32(number(r, 4*i))
		}
		f.Pages = append(f.Pages, p)
	}
	for _, r := range recordsOf(b, 6) {
		f.Outs = append(f.Outs, api.OutRec{Kind: int(r[0]), Serial: great(r[1:])})
	}
	return im
}
