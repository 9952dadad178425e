package chain_test

import (
	"amber/api"
	"amber/image"
)

// The chapter's words once more, apart from the package's own way: what it must answer, at anything.

func fullModel(f api.Forest, keys []api.Key, gen int) (api.Image, api.Errno) {
	refs := make([]int, len(keys))
	for i := range refs {
		refs[i] = -1
	}
	return takenModel(api.Image{Gen: gen, Forest: f, Keys: keys, Refs: refs})
}

func takenModel(im api.Image) (api.Image, api.Errno) {
	if image.Check(im) != nil {
		return api.Image{}, api.ErrImage
	}
	return im, api.OK
}

func nextModel(base api.Folded, ident uint32, f api.Forest, keys []api.Key) (api.Image, api.Errno) {
	if len(keys) != len(f.Pages) {
		return api.Image{}, api.ErrImage
	}
	im := api.Image{Incr: true, Gen: base.Gen + 1, Prev: base.Gen, PrevIdent: ident, Forest: f, Keys: keys, Refs: make([]int, len(keys))}
	im.Forest.Pages = nil
	for class := range keys {
		im.Refs[class] = -1
		for at := len(base.Keys) - 1; at >= 0; at-- {
			if keys[class].Mark >= 1 && base.Keys[at].Serial == keys[class].Serial && base.Keys[at].Mark == keys[class].Mark {
				im.Refs[class] = at
			}
		}
		if im.Refs[class] == -1 {
			im.Forest.Pages = append(im.Forest.Pages, f.Pages[class])
		}
	}
	return takenModel(im)
}

// pageModel: the page of a class of the last image, sought back to the image that has it.
func pageModel(ims []api.Image, class int) api.Page {
	last := ims[len(ims)-1]
	if last.Refs[class] != -1 {
		return pageModel(ims[:len(ims)-1], last.Refs[class])
	}
	at := 0
	for _, ref := range last.Refs[:class] {
		if ref == -1 {
			at++
		}
	}
	return last.Forest.Pages[at]
}

func foldModel(ims []api.Image, idents []uint32) (api.Folded, api.Errno) {
	switch {
	case len(ims) != len(idents):
		return api.Folded{}, api.ErrArg
	case len(ims) == 0:
		return api.Folded{}, api.ErrNoImage
	case len(ims) > 5:
		return api.Folded{}, api.ErrChain
	}
	for i := range ims {
		if code := linkModel(ims[:i+1], idents); code != api.OK {
			return api.Folded{}, code
		}
	}
	last := ims[len(ims)-1]
	fold := api.Folded{Forest: last.Forest, Keys: last.Keys, Gen: last.Gen}
	fold.Forest.Pages = nil
	for class := range last.Keys {
		fold.Forest.Pages = append(fold.Forest.Pages, pageModel(ims, class))
	}
	return fold, api.OK
}

// linkModel: of the last of these images, those ahead of it being a chain.
func linkModel(ims []api.Image, idents []uint32) api.Errno {
	n := len(ims) - 1
	im := ims[n]
	if image.Check(im) != nil {
		return api.ErrImage
	}
	if n == 0 {
		if im.Incr {
			return api.ErrChain
		}
		return api.OK
	}
	before := ims[n-1]
	if !im.Incr || im.Gen-before.Gen != 1 || im.PrevIdent != idents[n-1] {
		return api.ErrChain
	}
	for class, ref := range im.Refs {
		if ref != -1 && (ref >= len(before.Keys) || before.Keys[ref].Serial != im.Keys[class].Serial || before.Keys[ref].Mark != im.Keys[class].Mark) {
			return api.ErrChain
		}
	}
	return api.OK
}

// loadModel: image by image, so that what can't be decoded behind a broken link is not told.
func loadModel(raws [][]byte) (api.Folded, api.Errno) {
	switch {
	case len(raws) == 0:
		return api.Folded{}, api.ErrNoImage
	case len(raws) > 5:
		return api.Folded{}, api.ErrChain
	}
	var ims []api.Image
	var idents []uint32
	for _, raw := range raws {
		im, err := image.Decode(raw)
		if err != nil {
			return api.Folded{}, api.ErrImage
		}
		ims, idents = append(ims, im), append(idents, image.Ident(raw))
		if code := linkModel(ims, idents); code != api.OK {
			return api.Folded{}, code
		}
	}
	return foldModel(ims, idents)
}

// canonModel sorts by laying each record behind the last that is not greater, and numbers by looking back.
func canonModel(f api.Forest) (api.Forest, api.Errno) {
	out := api.Forest{Envs: f.Envs}
	for _, c := range f.Caps {
		if c.In && c.Kind == 1 && (c.Obj < 0 || c.Obj >= len(f.Pages)) || !c.In && (c.Obj < 0 || c.Obj >= len(f.Outs)) {
			return api.Forest{}, api.ErrImage
		}
		at := len(out.Caps)
		for at > 0 && (c.Env < out.Caps[at-1].Env || c.Env == out.Caps[at-1].Env && c.Slot < out.Caps[at-1].Slot) {
			at--
		}
		out.Caps = laid(out.Caps, at, c)
	}
	for _, m := range f.Maps {
		at := len(out.Maps)
		for at > 0 && (m.Env < out.Maps[at-1].Env || m.Env == out.Maps[at-1].Env && m.V < out.Maps[at-1].V) {
			at--
		}
		out.Maps = laid(out.Maps, at, m)
	}
	var classes, outs []int
	for i, c := range out.Caps {
		switch {
		case !c.In:
			outs = seenModel(outs, c.Obj)
			out.Caps[i].Obj = placeIn(outs, c.Obj)
		case c.Kind == 1:
			classes = seenModel(classes, c.Obj)
			out.Caps[i].Obj = placeIn(classes, c.Obj)
		}
	}
	for _, at := range classes {
		out.Pages = append(out.Pages, f.Pages[at])
	}
	for _, at := range outs {
		out.Outs = append(out.Outs, f.Outs[at])
	}
	if image.Valid(out) != nil {
		return api.Forest{}, api.ErrImage
	}
	return out, api.OK
}

func laid[T any](list []T, at int, v T) []T {
	var out []T
	out = append(out, list[:at]...)
	out = append(out, v)
	return append(out, list[at:]...)
}

func placeIn(list []int, v int) int {
	for i, x := range list {
		if x == v {
			return i
		}
	}
	return -1
}

func seenModel(list []int, v int) []int {
	if placeIn(list, v) == -1 {
		list = append(list, v)
	}
	return list
}

// tieModel looks for each pair at all others.
func tieModel(a, b api.Forest) ([]int, []int, bool) {
	if len(a.Envs) != len(b.Envs) || len(a.Maps) != len(b.Maps) || len(a.Caps) != len(b.Caps) || len(a.Pages) != len(b.Pages) || len(a.Outs) != len(b.Outs) {
		return nil, nil, false
	}
	for i := range a.Envs {
		if a.Envs[i] != b.Envs[i] {
			return nil, nil, false
		}
	}
	for i := range a.Maps {
		if a.Maps[i] != b.Maps[i] {
			return nil, nil, false
		}
	}
	var inside, outside [][2]int
	for i, c := range a.Caps {
		d := b.Caps[i]
		pair := [2]int{c.Obj, d.Obj}
		if c.Env != d.Env || c.Slot != d.Slot || c.Kind != d.Kind || c.Rights != d.Rights || c.In != d.In || c.From.Env != d.From.Env || c.From.Slot != d.From.Slot {
			return nil, nil, false
		}
		switch {
		case !c.In:
			outside = append(outside, pair)
		case c.Kind == 1:
			inside = append(inside, pair)
		case c.Obj != d.Obj:
			return nil, nil, false
		}
	}
	classes, ok := pairsModel(inside, len(a.Pages))
	outs, ok2 := pairsModel(outside, len(a.Outs))
	if !ok || !ok2 {
		return nil, nil, false
	}
	for i, at := range classes {
		if a.Pages[i] != b.Pages[at] {
			return nil, nil, false
		}
	}
	for i, at := range outs {
		if a.Outs[i].Kind != b.Outs[at].Kind || a.Outs[i].Serial != b.Outs[at].Serial {
			return nil, nil, false
		}
	}
	return classes, outs, true
}

// pairsModel: whether the pairs tie 0 to n - 1 one to one, and how.
func pairsModel(pairs [][2]int, n int) ([]int, bool) {
	for _, p := range pairs {
		if p[0] < 0 || p[0] >= n || p[1] < 0 || p[1] >= n {
			return nil, false
		}
		for _, q := range pairs {
			if (p[0] == q[0]) != (p[1] == q[1]) {
				return nil, false
			}
		}
	}
	var to []int
	for i := range n {
		for _, p := range pairs {
			if p[0] == i {
				to = append(to, p[1])
				break
			}
		}
	}
	return to, len(to) == n
}
