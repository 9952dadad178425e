package chain_test

import (
	"math"
	"slices"
	"testing"

	"amber/api"
	"amber/chain"
	"amber/image"
)

// fulls holds Full against the chapter's words.
func fulls(t *testing.T, what string, f api.Forest, keys []api.Key, gen int) (api.Image, api.Errno) {
	t.Helper()
	want, code := fullModel(f, keys, gen)
	im, got := chain.Full(f, keys, gen)
	if got != code || !alikeImages(im, want) {
		t.Errorf("P15.1: Full of %s: %+v, %d, want %+v, %d", what, im, got, want, code)
	}
	return im, got
}

// nexts holds Next against the chapter's words.
func nexts(t *testing.T, what string, base api.Folded, ident uint32, f api.Forest, keys []api.Key) (api.Image, api.Errno) {
	t.Helper()
	want, code := nextModel(base, ident, f, keys)
	im, got := chain.Next(base, ident, f, keys)
	if got != code || !alikeImages(im, want) {
		t.Errorf("P15.1: Next of %s: %+v, %d, want %+v, %d", what, im, got, want, code)
	}
	return im, got
}

func TestFull(t *testing.T) {
	keys := keysOf(5, 8, 6, 9)
	im, code := fulls(t, "f1", f1(), keys, 1)
	want := api.Image{Gen: 1, Forest: f1(), Keys: keys, Refs: []int{-1, -1}}
	if code != api.OK || !alikeImages(im, want) {
		t.Errorf("P15.1: Full(f1) = %+v, %d", im, code)
	}
	bare := plot(nil)
	big := greatest()
	var many []api.Key
	for i := range big.Pages {
		many = append(many, api.Key{Serial: api.MaxSerial - i, Mark: api.MaxSerial})
	}
	unfrozen := f1()
	unfrozen.Envs[0].Frozen = false
	for _, c := range []struct {
		what string
		f    api.Forest
		keys []api.Key
		gen  int
		code api.Errno
	}{
		{"the last generation", f1(), keys, api.MaxGen, api.OK},
		{"marks 0", f1(), keysOf(5, 0, 6, 0), 7, api.OK},
		{"the greatest key", f1(), keysOf(api.MaxSerial, api.MaxSerial, 1, 0), 7, api.OK},
		{"no classes", bare, nil, 1, api.OK},
		{"the greatest forest", big, many, 3, api.OK},
		{"one key", f1(), keysOf(5, 8), 1, api.ErrImage},
		{"no keys", f1(), nil, 1, api.ErrImage},
		{"a key too many", f1(), keysOf(5, 8, 6, 9, 7, 9), 1, api.ErrImage},
		{"a key without a page", bare, keysOf(5, 8), 1, api.ErrImage},
		{"generation 0", f1(), keys, 0, api.ErrImage},
		{"a generation below 0", f1(), keys, -1, api.ErrImage},
		{"the generation behind the last", f1(), keys, api.MaxGen + 1, api.ErrImage},
		{"the least int", f1(), keys, math.MinInt, api.ErrImage},
		{"the greatest int", f1(), keys, math.MaxInt, api.ErrImage},
		{"one serial twice", f1(), keysOf(5, 8, 5, 9), 1, api.ErrImage},
		{"serial 0", f1(), keysOf(0, 8, 6, 9), 1, api.ErrImage},
		{"a serial too great", f1(), keysOf(api.MaxSerial+1, 8, 6, 9), 1, api.ErrImage},
		{"a mark below 0", f1(), keysOf(5, -1, 6, 9), 1, api.ErrImage},
		{"a mark too great", f1(), keysOf(5, 8, 6, math.MaxInt), 1, api.ErrImage},
		{"no forest", api.Forest{}, nil, 1, api.ErrImage},
		{"a first environment that isn't frozen", unfrozen, keys, 1, api.ErrImage},
		{"a class that nobody names", plot(f1().Caps[:1], page(1), page(2)), keys, 1, api.ErrImage},
		{"classes out of order", f3(), keys, 1, api.ErrImage},
		{"capabilities out of order", f4(), keys, 1, api.ErrImage},
		{"a page too few", plot(f1().Caps, page(1)), keys, 1, api.ErrImage},
		{"too many classes", plot(nil, make([]api.Page, 65)...), append(many, api.Key{Serial: 1}), 1, api.ErrImage},
		{"very many keys", f1(), make([]api.Key, 100000), 1, api.ErrImage},
	} {
		if _, code := fulls(t, c.what, c.f, c.keys, c.gen); code != c.code {
			t.Errorf("P15.1: Full of %s: %d, want %d", c.what, code, c.code)
		}
	}
}

// base1: what the full image of f1 folds to.
func base1() api.Folded {
	return api.Folded{Forest: f1(), Keys: keysOf(5, 8, 6, 9), Gen: 1}
}

func TestNext(t *testing.T) {
	im, code := nexts(t, "f2 behind f1", base1(), 77, f2(), keysOf(5, 8, 6, 10))
	want := api.Image{Incr: true, Gen: 2, Prev: 1, PrevIdent: 77, Forest: f2(), Keys: keysOf(5, 8, 6, 10), Refs: []int{0, -1}}
	want.Forest.Pages = []api.Page{page(1)}
	if code != api.OK || !alikeImages(im, want) {
		t.Errorf("P15.1: Next(f1, 77, f2) = %+v, %d", im, code)
	}
	base := base1()
	base.Keys = keysOf(5, 0, 6, 9)
	if im, code := nexts(t, "a class never cleaned", base, 77, f2(), keysOf(5, 0, 6, 10)); code != api.OK || !slices.Equal(im.Refs, []int{-1, -1}) || len(im.Forest.Pages) != 2 {
		t.Errorf("P15.1: Next of a class never cleaned: %+v, %d", im, code)
	}
	odd := func(change func(*api.Folded)) api.Folded {
		b := base1()
		change(&b)
		return b
	}
	gen := func(n int) api.Folded { return odd(func(b *api.Folded) { b.Gen = n }) }
	keys := keysOf(5, 8, 6, 10)
	for _, c := range []struct {
		what string
		base api.Folded
		f    api.Forest
		keys []api.Key
		code api.Errno
	}{
		{"the last but one generation", gen(api.MaxGen - 1), f2(), keys, api.OK},
		{"no classes behind classes", base1(), plot(nil), nil, api.OK},
		{"a base of which there is nothing but Gen", api.Folded{Gen: 9}, f2(), keys, api.OK},
		{"the last generation", gen(api.MaxGen), f2(), keys, api.ErrImage},
		{"base generation 0", gen(0), f2(), keys, api.ErrImage},
		{"base generation -1", gen(-1), f2(), keys, api.ErrImage},
		{"the least int", gen(math.MinInt), f2(), keys, api.ErrImage},
		{"the greatest int", gen(math.MaxInt), f2(), keys, api.ErrImage},
		{"a key too few", base1(), f2(), keysOf(5, 8), api.ErrImage},
		{"a key too many", base1(), f2(), keysOf(5, 8, 6, 10, 7, 1), api.ErrImage},
		{"a key too many, whose page the base holds", base1(), plot(f2().Caps, page(1)), keysOf(5, 8, 6, 10), api.ErrImage},
		{"a page without a key", base1(), f2(), nil, api.ErrImage},
		{"a key without a page", base1(), plot(nil), keysOf(5, 8), api.ErrImage},
		{"one serial twice", base1(), f2(), keysOf(5, 8, 5, 9), api.ErrImage},
		{"a mark below 0", odd(func(b *api.Folded) { b.Keys[0].Mark = -1 }), f2(), keysOf(5, -1, 6, 10), api.ErrImage},
		{"no forest", base1(), api.Forest{}, nil, api.ErrImage},
		{"a class that nobody names", base1(), plot(f2().Caps[:1], page(1), page(2)), keys, api.ErrImage},
		{"classes out of order", base1(), f3(), keys, api.ErrImage},
		{"very many keys", odd(func(b *api.Folded) { b.Keys = make([]api.Key, 3000) }), plot(nil, make([]api.Page, 1000)...), make([]api.Key, 1000), api.ErrImage},
	} {
		if _, code := nexts(t, c.what, c.base, 77, c.f, c.keys); code != c.code {
			t.Errorf("P15.1: Next of %s: %d, want %d", c.what, code, c.code)
		}
	}
}

// TestRefs: which class of the base a class refers to.
func TestRefs(t *testing.T) {
	long := make([]api.Key, 80)
	for i := range long {
		long[i] = api.Key{Serial: 100 + i, Mark: 1}
	}
	for _, c := range []struct {
		what string
		base []api.Key
		keys []api.Key
		refs []int
	}{
		{"both known", keysOf(5, 8, 6, 9), keysOf(5, 8, 6, 9), []int{0, 1}},
		{"both known, turned round", keysOf(6, 9, 5, 8), keysOf(5, 8, 6, 9), []int{1, 0}},
		{"none known", keysOf(5, 8, 6, 9), keysOf(7, 8, 8, 9), []int{-1, -1}},
		{"the serial alone", keysOf(5, 8, 6, 9), keysOf(5, 9, 6, 8), []int{-1, -1}},
		{"the mark alone", keysOf(5, 8, 6, 9), keysOf(6, 8, 5, 9), []int{-1, -1}},
		{"mark 0 on both sides", keysOf(5, 0, 6, 0), keysOf(5, 0, 6, 0), []int{-1, -1}},
		{"mark 1", keysOf(5, 1, 6, 0), keysOf(5, 1, 6, 0), []int{0, -1}},
		{"the lowest of several", keysOf(5, 7, 6, 9, 5, 8, 6, 9, 5, 8), keysOf(5, 8, 6, 9), []int{2, 1}},
		{"the last that a Ref can name", long, keysOf(163, 1, 100, 1), []int{63, 0}},
		{"one behind it", long, keysOf(164, 1, 100, 1), nil},
		{"no base", nil, keysOf(5, 8, 6, 9), []int{-1, -1}},
	} {
		base := api.Folded{Keys: c.base, Gen: 4}
		im, code := nexts(t, c.what, base, 0, f1(), c.keys)
		if !slices.Equal(im.Refs, c.refs) || (code == api.OK) != (c.refs != nil) {
			t.Errorf("P15.1: Refs of %s: %v, %d, want %v", c.what, im.Refs, code, c.refs)
		}
	}
}

// TestOnlyGenAndKeysOfTheBase: nothing else of it is looked at, not even whether it has a forest.
func TestOnlyGenAndKeysOfTheBase(t *testing.T) {
	for seed := range 60 {
		d := dice(seed)
		p := newPool(&d)
		p.stir(&d)
		f, keys := p.told(&d, grown(&d))
		_, old := p.told(&d, grown(&d))
		want, code := chain.Next(api.Folded{Keys: old, Gen: 3}, 5, f, keys)
		if code != api.OK {
			t.Fatalf("P15.1: seed %d: %d", seed, code)
		}
		for _, forest := range []api.Forest{grown(&d), f, {Pages: make([]api.Page, 99)}} {
			if im, code := chain.Next(api.Folded{Forest: forest, Keys: old, Gen: 3}, 5, f, keys); code != api.OK || !alikeImages(im, want) {
				t.Errorf("P15.1: seed %d: Next looks at the base's forest: %+v, %d", seed, im, code)
			}
		}
	}
}

// TestOnlyWhatIsNew: an image has just the pages whose key the base hasn't, in the order of the classes.
func TestOnlyWhatIsNew(t *testing.T) {
	written, left := 0, 0
	for seed := range 300 {
		d := dice(seed)
		p := newPool(&d)
		p.stir(&d)
		_, old := p.told(&d, greatest())
		p.stir(&d)
		f, keys := p.told(&d, grown(&d))
		im, code := nexts(t, "a stirred pool", api.Folded{Keys: old, Gen: 1}, 1, f, keys)
		if code != api.OK {
			t.Fatalf("P15.3: seed %d: %d", seed, code)
		}
		var want []api.Page
		for class, key := range keys {
			if key.Mark == 0 || !slices.Contains(old, key) {
				want = append(want, f.Pages[class])
			}
		}
		if !slices.Equal(im.Forest.Pages, want) {
			t.Errorf("P15.3: seed %d: %d pages, want %d", seed, len(im.Forest.Pages), len(want))
		}
		written, left = written+len(want), left+len(keys)-len(want)
	}
	if written < 500 || left < 500 {
		t.Errorf("P15.3: only %d pages written and %d left out", written, left)
	}
}

// TestMadeIsTaken: what Full and Next make, image.Check takes, and it has one form.
func TestMadeIsTaken(t *testing.T) {
	for seed := range 100 {
		d := dice(seed)
		p := newPool(&d)
		p.stir(&d)
		f, keys := p.told(&d, grown(&d))
		full, _ := chain.Full(f, keys, 1+d.below(1000))
		next, _ := chain.Next(api.Folded{Keys: keys, Gen: 1 + d.below(1000)}, d.word(), f, keys)
		for _, im := range []api.Image{full, next} {
			back, err := image.Decode(encoded(t, im))
			if err != nil || !alikeImages(back, im) {
				t.Errorf("P15.1: seed %d: %v: %+v, want %+v", seed, err, back, im)
			}
		}
	}
}
