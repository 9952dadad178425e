package chain_test

import (
	"fmt"
	"math"
	"slices"
	"sync"
	"testing"

	"amber/api"
	"amber/chain"
	"amber/image"
)

// What no care was taken with: forests, images and bytes changed at random, held against the chapter's words; and whose memory is whose.

func (d *dice) odd() int {
	return d.of(-1, 0, 1, 2, 3, d.below(70), 47, 48, 63, 64, math.MinInt, math.MaxInt, api.MaxWord, api.MaxWord+1, api.MaxSerial, api.MaxSerial+1)
}

// some: a place of a list, or a new one behind it.
func some[T any](d *dice, list *[]T) *T {
	if len(*list) == 0 || d.one(6) {
		var v T
		*list = append(*list, v)
		return &(*list)[len(*list)-1]
	}
	return &(*list)[d.below(len(*list))]
}

// fewer takes one out of a list, or doubles it.
func fewer[T any](d *dice, list *[]T) {
	if n := len(*list); n > 0 {
		at := d.below(n)
		if d.one(2) {
			*list = slices.Delete(slices.Clone(*list), at, at+1)
		} else {
			*list = slices.Insert(slices.Clone(*list), at, (*list)[at])
		}
	}
}

// meddle changes one thing of a forest, which must be the caller's own.
func meddle(d *dice, f *api.Forest) {
	switch d.below(16) {
	case 0:
		e := some(d, &f.Envs)
		*[]*int{&e.Parent, &e.State, &e.Code, &e.Bits, &e.Quota.Frames, &e.Quota.Envs, &e.Quota.Extents}[d.below(7)] = d.odd()
	case 1:
		e := some(d, &f.Envs)
		e.Regs.R[d.below(8)], e.Regs.PC = d.word(), uint32(d.below(2))
	case 2:
		c := some(d, &f.Caps)
		*[]*int{&c.Env, &c.Slot, &c.Kind, &c.Rights, &c.From.Env, &c.From.Slot}[d.below(6)] = d.odd()
	case 3, 4:
		some(d, &f.Caps).Obj = d.odd()
	case 5, 6:
		some(d, &f.Caps).Obj = d.below(1 + max(len(f.Pages), len(f.Outs)))
	case 7:
		c := some(d, &f.Caps)
		c.In = !c.In
	case 8:
		some(d, &f.Caps).Rights = d.below(16)
	case 9:
		m := some(d, &f.Maps)
		*[]*int{&m.Env, &m.V, &m.Slot}[d.below(3)] = d.odd()
		m.Write = d.one(2)
	case 10:
		some(d, &f.Pages)[d.below(32)] = d.word()
	case 11:
		o := some(d, &f.Outs)
		*[]*int{&o.Kind, &o.Serial}[d.below(2)] = d.odd()
	default:
		[]func(){
			func() { fewer(d, &f.Envs) }, func() { fewer(d, &f.Caps) }, func() { fewer(d, &f.Maps) }, func() { fewer(d, &f.Pages) }, func() { fewer(d, &f.Outs) },
		}[d.below(5)]()
	}
}

// meddleImage changes one thing of an image.
func meddleImage(d *dice, im *api.Image) {
	switch d.below(10) {
	case 0:
		im.Gen, im.Prev = im.Gen+1, im.Prev+d.below(2)
	case 1:
		*[]*int{&im.Gen, &im.Prev}[d.below(2)] = d.odd()
	case 2:
		im.PrevIdent ^= 1 << d.below(32)
	case 3:
		im.Incr = !im.Incr
	case 4:
		k := some(d, &im.Keys)
		*[]*int{&k.Serial, &k.Mark}[d.below(2)] = d.odd()
	case 5:
		*some(d, &im.Refs) = d.odd()
	case 6:
		*some(d, &im.Refs) = d.below(len(im.Keys) + 1)
	case 7:
		fewer(d, &im.Keys)
	case 8:
		fewer(d, &im.Refs)
	default:
		meddle(d, &im.Forest)
	}
}

func TestOddForests(t *testing.T) {
	for seed := range 3000 {
		d := dice(seed)
		what := fmt.Sprintf("the odd forest %d", seed)
		f := grown(&d)
		g := renumbered(&d, f)
		for range d.below(4) {
			meddle(&d, &g)
		}
		ties(t, what, f, g)
		ties(t, what, g, f)
		h := cloned(g)
		meddle(&d, &h)
		ties(t, what, g, g)
		ties(t, what, g, h)
		canons(t, what, g)
		canons(t, what, h)
		g.Caps, g.Maps = shuffled(&d, g.Caps), shuffled(&d, g.Maps)
		canons(t, what, g)
	}
}

func TestOddImages(t *testing.T) {
	took, refused := 0, 0
	for seed := range 1500 {
		d := dice(seed)
		what := fmt.Sprintf("the odd chain %d", seed)
		p := newPool(&d)
		p.stir(&d)
		f, keys := p.told(&d, grown(&d))
		_, old := p.told(&d, grown(&d))
		base := api.Folded{Keys: old, Gen: d.of(1, 2, d.odd())}
		for range d.below(3) {
			if d.one(2) {
				meddle(&d, &f)
			} else {
				k := some(&d, &keys)
				*[]*int{&k.Serial, &k.Mark}[d.below(2)] = d.odd()
			}
		}
		fulls(t, what, f, keys, d.of(1, d.odd()))
		nexts(t, what, base, d.word(), f, keys)
		links := grownChain(t, &d, 1+d.below(5))
		ims, idents := imagesOf(links)
		for range d.below(3) {
			im := &ims[d.below(len(ims))]
			*im = clonedImage(*im)
			meddleImage(&d, im)
		}
		if d.one(4) {
			fewer(&d, &ims)
		}
		if d.one(8) {
			fewer(&d, &idents)
		}
		if _, code := folds(t, what, ims, idents); code == api.OK {
			took++
		} else {
			refused++
		}
	}
	if took < 300 || refused < 300 {
		t.Errorf("P15.1: %d odd chains were taken, %d refused", took, refused)
	}
}

// TestOddBytes: images that were meddled with and are images still, as bytes, laid in any order.
func TestOddBytes(t *testing.T) {
	codes := map[api.Errno]int{}
	for seed := range 800 {
		d := dice(seed)
		var raws [][]byte
		var before uint32
		for _, l := range grownChain(t, &d, 1+d.below(5)) {
			im := clonedImage(l.im)
			if d.one(4) {
				meddleImage(&d, &im)
			}
			if im.Incr && d.one(2) { // so that what follows an odd image names it
				im.PrevIdent = before
			}
			raw, err := image.Encode(im)
			if err != nil {
				raw = slices.Clone(l.raw)
				raw[d.below(len(raw))] ^= byte(d.below(2))
			}
			raws, before = append(raws, raw), image.Ident(raw)
		}
		if d.one(6) {
			fewer(&d, &raws)
		}
		_, code := loads(t, fmt.Sprintf("the odd bytes %d", seed), raws)
		codes[code]++
	}
	if codes[api.OK] < 80 || codes[api.ErrChain] < 80 || codes[api.ErrImage] < 20 {
		t.Errorf("P15.1: the answers were %v", codes)
	}
}

// spoil writes over all memory of a list, spare room included.
func spoil[T any](list []T, v T) {
	for i := range list[:cap(list)] {
		list[:cap(list)][i] = v
	}
}

func spoilForest(f api.Forest) {
	spoil(f.Envs, api.EnvRec{Code: -7})
	spoil(f.Caps, api.CapRec{Obj: -7})
	spoil(f.Maps, api.MapRec{V: -7})
	spoil(f.Pages, api.Page{7})
	spoil(f.Outs, api.OutRec{Kind: -7})
}

func spoilImage(im api.Image) {
	spoilForest(im.Forest)
	spoil(im.Keys, api.Key{Mark: -7})
	spoil(im.Refs, -7)
}

func spoilFold(f api.Folded) {
	spoilForest(f.Forest)
	spoil(f.Keys, api.Key{Mark: -7})
}

// roomy: the forest in memory with spare room, so that whoever appends to an argument is found.
func roomy(f api.Forest) api.Forest {
	return api.Forest{
		Envs: append(make([]api.EnvRec, 0, 40), f.Envs...), Caps: append(make([]api.CapRec, 0, 900), f.Caps...), Maps: append(make([]api.MapRec, 0, 300), f.Maps...),
		Pages: append(make([]api.Page, 0, 80), f.Pages...), Outs: append(make([]api.OutRec, 0, 800), f.Outs...),
	}
}

// rest: the spare room of a list.
func rest[T any](list []T) []T { return list[len(list):cap(list)] }

func untouched(f api.Forest) bool {
	return !slices.ContainsFunc(rest(f.Caps), func(c api.CapRec) bool { return c != api.CapRec{} }) &&
		!slices.ContainsFunc(rest(f.Pages), func(p api.Page) bool { return p != api.Page{} }) &&
		!slices.ContainsFunc(rest(f.Maps), func(m api.MapRec) bool { return m != api.MapRec{} }) &&
		!slices.ContainsFunc(rest(f.Outs), func(o api.OutRec) bool { return o != api.OutRec{} }) &&
		!slices.ContainsFunc(rest(f.Envs), func(e api.EnvRec) bool { return e != api.EnvRec{} })
}

func TestNothingIsSharedByImages(t *testing.T) {
	for seed := range 40 {
		d := dice(seed)
		p := newPool(&d)
		p.stir(&d)
		f, keys := p.told(&d, grown(&d))
		f, keys = roomy(f), append(make([]api.Key, 0, 90), keys...)
		base := api.Folded{Keys: slices.Clone(keys), Gen: 1}
		kept, keptKeys := cloned(f), slices.Clone(keys)
		full, _ := chain.Full(f, keys, 1)
		next, code := chain.Next(base, 1, f, keys)
		wantFull, wantNext := clonedImage(full), clonedImage(next)
		again, _ := chain.Full(f, keys, 1)
		if code != api.OK || !alike(f, kept) || !untouched(f) || !slices.Equal(keys, keptKeys) || !slices.Equal(base.Keys, keptKeys) {
			t.Fatalf("P15.1: seed %d: an argument was changed", seed)
		}
		spoilForest(f)
		spoil(keys, api.Key{Mark: -7})
		spoil(base.Keys, api.Key{Mark: -7})
		if !alikeImages(full, wantFull) || !alikeImages(next, wantNext) {
			t.Fatalf("P15.1: seed %d: an image changes with what was handed in", seed)
		}
		spoilImage(full)
		if !alikeImages(again, wantFull) || !alikeImages(next, wantNext) {
			t.Fatalf("P15.1: seed %d: two answers share memory", seed)
		}
	}
}

func TestNothingIsSharedByFolds(t *testing.T) {
	for seed := range 40 {
		d := dice(seed)
		links := grownChain(t, &d, 1+d.below(5))
		var ims []api.Image
		var kept []api.Image
		for _, l := range links {
			im := clonedImage(l.im)
			im.Forest = roomy(im.Forest)
			ims, kept = append(ims, im), append(kept, clonedImage(im))
		}
		_, idents := imagesOf(links)
		raws := rawsOf(links)
		want := links[len(links)-1].fold
		one, code := chain.Fold(ims, idents)
		two, _ := chain.Fold(ims, idents)
		three, _ := chain.Load(raws)
		if code != api.OK || !alikeFolds(one, want) || !slices.EqualFunc(ims, kept, alikeImages) {
			t.Fatalf("P15.1: seed %d: %d, or an argument was changed", seed, code)
		}
		for _, im := range ims {
			if !untouched(im.Forest) {
				t.Fatalf("P15.1: seed %d: an argument's spare room was changed", seed)
			}
			spoilImage(im)
		}
		spoil(idents, 7)
		for _, raw := range raws {
			spoil(raw, 7)
		}
		if !alikeFolds(one, want) || !alikeFolds(three, want) {
			t.Fatalf("P15.1: seed %d: a fold changes with what was handed in", seed)
		}
		spoilFold(one)
		if !alikeFolds(two, want) || !alikeFolds(three, want) {
			t.Fatalf("P15.1: seed %d: two answers share memory", seed)
		}
	}
}

func TestNothingIsSharedByForests(t *testing.T) {
	for seed := range 40 {
		d := dice(seed)
		f := grown(&d)
		x := roomy(mixed(&d, f))
		y := roomy(renumbered(&d, f))
		keptX, keptY, keptF := cloned(x), cloned(y), cloned(f)
		c, code := chain.Canon(x)
		classes, outs, same := chain.Tie(f, y)
		if code != api.OK || !same || !alike(x, keptX) || !alike(y, keptY) || !alike(f, keptF) || !untouched(x) || !untouched(y) {
			t.Fatalf("P15.1: seed %d: %d, %v, or an argument was changed", seed, code, same)
		}
		keptOuts := slices.Clone(outs)
		spoilForest(x)
		if !alike(c, f) {
			t.Fatalf("P15.1: seed %d: a canon changes with what was handed in", seed)
		}
		spoil(classes, -7)
		if !slices.Equal(outs, keptOuts) {
			t.Fatalf("P15.1: seed %d: the ties share memory", seed)
		}
	}
}

// TestNothingIsKept: whatever was asked before, or is asked beside it, the answers are the same.
func TestNothingIsKept(t *testing.T) {
	var done sync.WaitGroup
	d := dice(9)
	links := grownChain(t, &d, 5)
	ims, idents := imagesOf(links)
	raws := rawsOf(links)
	for i := range 8 {
		done.Go(func() {
			d := dice(i)
			for range 20 {
				folds(t, "a chain beside others", ims, idents)
				loads(t, "a chain beside others", raws)
				f := mixed(&d, links[d.below(5)].fold.Forest)
				canons(t, "a forest beside others", f)
				ties(t, "a forest beside others", f, f)
			}
		})
	}
	done.Wait()
}
