package chain_test

import (
	"fmt"
	"slices"
	"testing"

	"amber/api"
	"amber/chain"
	"amber/crc"
	"amber/image"
)

// folds holds Fold against the chapter's words.
func folds(t *testing.T, what string, ims []api.Image, idents []uint32) (api.Folded, api.Errno) {
	t.Helper()
	want, code := foldModel(ims, idents)
	fold, got := chain.Fold(ims, idents)
	if got != code || !alikeFolds(fold, want) {
		t.Errorf("P15.1: Fold of %s: %+v, %d, want %+v, %d", what, fold, got, want, code)
	}
	return fold, got
}

// loads holds Load against the chapter's words.
func loads(t *testing.T, what string, raws [][]byte) (api.Folded, api.Errno) {
	t.Helper()
	want, code := loadModel(raws)
	fold, got := chain.Load(raws)
	if got != code || !alikeFolds(fold, want) {
		t.Errorf("P15.1: Load of %s: %+v, %d, want %+v, %d", what, fold, got, want, code)
	}
	return fold, got
}

// link: one image of a chain, as it is, as bytes, and what the chain up to it says.
type link struct {
	im    api.Image
	raw   []byte
	ident uint32
	fold  api.Folded
}

// forged: a chain of so many images, of forests and keys that next tells; each is made against the fold of those before it.
func forged(t *testing.T, n, gen int, next func() (api.Forest, []api.Key)) []link {
	t.Helper()
	var links []link
	for i := range n {
		f, keys := next()
		im, code := chain.Full(f, keys, gen)
		if i > 0 {
			im, code = chain.Next(links[i-1].fold, links[i-1].ident, f, keys)
		}
		if code != api.OK {
			t.Fatalf("P15.2: image %d: %d", i, code)
		}
		l := link{im: im, raw: encoded(t, im), fold: api.Folded{Forest: f, Keys: keys, Gen: gen + i}}
		l.ident = image.Ident(l.raw)
		links = append(links, l)
	}
	return links
}

// grownChain: a chain of grown forests over one pool of frames.
func grownChain(t *testing.T, d *dice, n int) []link {
	t.Helper()
	p := newPool(d)
	return forged(t, n, 1+d.below(1000), func() (api.Forest, []api.Key) {
		p.stir(d)
		return p.told(d, grown(d))
	})
}

func imagesOf(links []link) ([]api.Image, []uint32) {
	var ims []api.Image
	var idents []uint32
	for _, l := range links {
		ims, idents = append(ims, l.im), append(idents, l.ident)
	}
	return ims, idents
}

func rawsOf(links []link) [][]byte {
	var raws [][]byte
	for _, l := range links {
		raws = append(raws, l.raw)
	}
	return raws
}

// pair: the chapter's two images.
func pair(t *testing.T) []api.Image {
	t.Helper()
	full, code := chain.Full(f1(), keysOf(5, 8, 6, 9), 1)
	next, code2 := chain.Next(base1(), 77, f2(), keysOf(5, 8, 6, 10))
	if code != api.OK || code2 != api.OK {
		t.Fatalf("P15.1: %d, %d", code, code2)
	}
	return []api.Image{full, next}
}

func TestFoldExamples(t *testing.T) {
	ims := pair(t)
	if fold, code := folds(t, "the full one", ims[:1], []uint32{0}); code != api.OK || !alikeFolds(fold, base1()) {
		t.Errorf("P15.1: Fold of the full one: %+v, %d", fold, code)
	}
	want := api.Folded{Forest: f2(), Keys: keysOf(5, 8, 6, 10), Gen: 2}
	if fold, code := folds(t, "both", ims, []uint32{77, 1}); code != api.OK || !alikeFolds(fold, want) {
		t.Errorf("P15.1: Fold of both: %+v, %d", fold, code)
	}
	for _, c := range []struct {
		what   string
		ims    []api.Image
		idents []uint32
		code   api.Errno
	}{
		{"another ident", ims, []uint32{78, 1}, api.ErrChain},
		{"the idents turned round", ims, []uint32{1, 77}, api.ErrChain},
		{"an ident too few", ims, []uint32{77}, api.ErrArg},
		{"an ident too many", ims, []uint32{77, 1, 2}, api.ErrArg},
		{"no idents", ims, nil, api.ErrArg},
		{"idents alone", nil, []uint32{77}, api.ErrArg},
		{"six images and five idents", make([]api.Image, 6), make([]uint32, 5), api.ErrArg},
		{"nothing", nil, nil, api.ErrNoImage},
		{"nothing, but not nil", []api.Image{}, []uint32{}, api.ErrNoImage},
		{"six images that are none", make([]api.Image, 6), make([]uint32, 6), api.ErrChain},
		{"very many images", make([]api.Image, 5000), make([]uint32, 5000), api.ErrChain},
		{"five images that are none", make([]api.Image, 5), make([]uint32, 5), api.ErrImage},
		{"the second alone", ims[1:], []uint32{77}, api.ErrChain},
		{"the second and the first", []api.Image{ims[1], ims[0]}, []uint32{77, 77}, api.ErrChain},
		{"the first twice", []api.Image{ims[0], ims[0]}, []uint32{77, 77}, api.ErrChain},
		{"the second twice", []api.Image{ims[0], ims[1], ims[1]}, []uint32{77, 77, 77}, api.ErrChain},
	} {
		if _, code := folds(t, c.what, c.ims, c.idents); code != c.code {
			t.Errorf("P15.1: Fold of %s: %d, want %d", c.what, code, c.code)
		}
	}
}

// TestFollows: one thing wrong with the second image at a time; and what may be all the same.
func TestFollows(t *testing.T) {
	for _, c := range []struct {
		what   string
		change func(full, next *api.Image)
		code   api.Errno
	}{
		{"nothing", func(_, _ *api.Image) {}, api.OK},
		{"a key with another mark", func(_, n *api.Image) { n.Keys = keysOf(5, 7, 6, 10) }, api.ErrChain},
		{"a key with another serial", func(_, n *api.Image) { n.Keys = keysOf(4, 8, 6, 10) }, api.ErrChain},
		{"a base key with another mark", func(f, _ *api.Image) { f.Keys = keysOf(5, 9, 6, 9) }, api.ErrChain},
		{"a base key with another serial", func(f, _ *api.Image) { f.Keys = keysOf(7, 8, 6, 9) }, api.ErrChain},
		{"a ref to the other class", func(_, n *api.Image) { n.Refs = []int{1, -1} }, api.ErrChain},
		{"a ref one behind the classes", func(_, n *api.Image) { n.Refs = []int{2, -1} }, api.ErrChain},
		{"the greatest ref", func(_, n *api.Image) { n.Refs = []int{63, -1} }, api.ErrChain},
		{"a ref that may not be", func(_, n *api.Image) { n.Refs = []int{64, -1} }, api.ErrImage},
		{"a ref below -1", func(_, n *api.Image) { n.Refs = []int{-2, -1} }, api.ErrImage},
		{"a ref too few", func(_, n *api.Image) { n.Refs = []int{-1} }, api.ErrImage},
		{"no page", func(_, n *api.Image) { n.Forest.Pages = nil }, api.ErrImage},
		{"a class without a mark that refers", func(f, n *api.Image) { f.Keys, n.Keys = keysOf(5, 0, 6, 9), keysOf(5, 0, 6, 10) }, api.OK},
		{"a later generation", func(_, n *api.Image) { n.Gen, n.Prev = 3, 2 }, api.ErrChain},
		{"the base's generation later", func(f, _ *api.Image) { f.Gen = 2 }, api.ErrChain},
		{"both generations later", func(f, n *api.Image) { f.Gen, n.Gen, n.Prev = 8, 9, 8 }, api.OK},
		{"the last generations", func(f, n *api.Image) { f.Gen, n.Gen, n.Prev = api.MaxGen-1, api.MaxGen, api.MaxGen-1 }, api.OK},
		{"a generation apart from Prev", func(_, n *api.Image) { n.Gen = 3 }, api.ErrImage},
		{"another ident", func(_, n *api.Image) { n.PrevIdent = 76 }, api.ErrChain},
		{"an ident of which one high bit differs", func(_, n *api.Image) { n.PrevIdent = 77 | 1<<31 }, api.ErrChain},
		{"a first image that is none", func(f, _ *api.Image) { f.Gen = 0 }, api.ErrImage},
		{"a first image that is incremental", func(f, n *api.Image) { *f = *n }, api.ErrChain},
		{"a first image that is incremental, ahead of one that is none", func(f, n *api.Image) { *f = *n; n.Gen = 0 }, api.ErrChain},
		{"a second image that is full", func(f, n *api.Image) { *n = *f; n.Gen = 2 }, api.ErrChain},
		{"a second image without its flag", func(_, n *api.Image) { n.Incr = false }, api.ErrImage},
		{"both wrong", func(f, n *api.Image) { f.Gen, n.Gen = 0, 7 }, api.ErrImage},
	} {
		ims := pair(t)
		c.change(&ims[0], &ims[1])
		if _, code := folds(t, c.what, ims, []uint32{77, 1}); code != c.code {
			t.Errorf("P15.1: Fold with %s: %d, want %d", c.what, code, c.code)
		}
	}
}

// TestFirstFaultIsTold: what is wrong with an image is told ahead of all that is wrong behind it, by Fold and by Load.
func TestFirstFaultIsTold(t *testing.T) {
	d := dice(1)
	links := grownChain(t, &d, 5)
	for broken := range 5 {
		for cut := 1; cut < 5; cut++ {
			ims, idents := imagesOf(links)
			raws := rawsOf(links)
			fold := links[cut].fold
			full, _ := chain.Full(fold.Forest, fold.Keys, fold.Gen)
			idents[cut-1]++
			raws[cut] = encoded(t, full)
			ims[broken], raws[broken] = api.Image{}, raws[broken][1:]
			want := api.ErrImage
			if cut < broken {
				want = api.ErrChain
			}
			what := fmt.Sprintf("image %d is none, image %d doesn't follow", broken, cut)
			if _, code := folds(t, what, ims, idents); code != want {
				t.Errorf("P15.1: Fold: %s: %d, want %d", what, code, want)
			}
			if _, code := loads(t, what, raws); code != want {
				t.Errorf("P15.1: Load: %s: %d, want %d", what, code, want)
			}
		}
	}
}

func TestLoadWrong(t *testing.T) {
	d := dice(2)
	raws := rawsOf(grownChain(t, &d, 5))
	others := rawsOf(grownChain(t, &d, 5))
	for _, c := range []struct {
		what string
		raws [][]byte
		code api.Errno
	}{
		{"all five", raws, api.OK},
		{"nothing", nil, api.ErrNoImage},
		{"nothing, but not nil", [][]byte{}, api.ErrNoImage},
		{"one without bytes", make([][]byte, 1), api.ErrImage},
		{"five without bytes", make([][]byte, 5), api.ErrImage},
		{"six without bytes", make([][]byte, 6), api.ErrChain},
		{"very many", make([][]byte, 5000), api.ErrChain},
		{"six, of which the first five are a chain", append(slices.Clone(raws), raws[4]), api.ErrChain},
		{"six, of which the last has no bytes", append(slices.Clone(raws), nil), api.ErrChain},
		{"one cut behind a broken link", [][]byte{raws[0], raws[2], raws[1][:80]}, api.ErrChain},
		{"one cut ahead of a broken link", [][]byte{raws[0], raws[1][:80], raws[4]}, api.ErrImage},
		{"one longer", [][]byte{raws[0], append(slices.Clone(raws[1]), 0)}, api.ErrImage},
		{"too many bytes", [][]byte{make([]byte, api.MaxImage+1)}, api.ErrImage},
		{"another chain's second", [][]byte{raws[0], others[1]}, api.ErrChain},
		{"another chain's first", [][]byte{others[0], raws[1]}, api.ErrChain},
	} {
		if _, code := loads(t, c.what, c.raws); code != c.code {
			t.Errorf("P15.1: Load of %s: %d, want %d", c.what, code, c.code)
		}
	}
}

// TestFoldTellsTheLast: every chain folds to its last forest with its keys, page by page, as images and as bytes.
func TestFoldTellsTheLast(t *testing.T) {
	referred := 0
	for seed := range 150 {
		d := dice(seed)
		links := grownChain(t, &d, 5)
		ims, idents := imagesOf(links)
		raws := rawsOf(links)
		for n := 1; n <= 5; n++ {
			want := links[n-1].fold
			if fold, code := chain.Fold(ims[:n], idents[:n]); code != api.OK || !alikeFolds(fold, want) {
				t.Fatalf("P15.2: seed %d: Fold of %d: %+v, %d, want %+v", seed, n, fold, code, want)
			}
			if fold, code := chain.Load(raws[:n]); code != api.OK || !alikeFolds(fold, want) {
				t.Fatalf("P15.2: seed %d: Load of %d: %+v, %d, want %+v", seed, n, fold, code, want)
			}
			full, _ := chain.Full(want.Forest, want.Keys, 1)
			fold, code := chain.Fold([]api.Image{full}, []uint32{0})
			fold.Gen = want.Gen
			if code != api.OK || !alikeFolds(fold, want) {
				t.Fatalf("P15.2: seed %d: the full image of forest %d folds to %+v, %d", seed, n, fold, code)
			}
			referred += len(want.Keys) - len(links[n-1].im.Forest.Pages)
		}
	}
	if referred < 500 {
		t.Errorf("P15.2: only %d pages were left out", referred)
	}
}

// TestPagesFromFarBack: one page stands in the first image alone, and goes from class to class.
func TestPagesFromFarBack(t *testing.T) {
	first := plot([]api.CapRec{held(0, 15, 0), held(1, 15, 1), held(2, 15, 2)}, page(1), page(2), page(3))
	at := 0
	links := forged(t, 5, 9, func() (api.Forest, []api.Key) {
		f := cloned(first)
		var keys []api.Key
		for class := range f.Pages {
			turned := (class + at) % 3
			f.Pages[class] = page(uint32(1 + turned))
			keys = append(keys, api.Key{Serial: 5 + turned, Mark: 9})
		}
		at++
		return f, keys
	})
	fold, code := chain.Load(rawsOf(links))
	if code != api.OK || fold.Gen != 13 || !slices.Equal(fold.Forest.Pages, []api.Page{page(2), page(3), page(1)}) {
		t.Errorf("P15.2: %+v, %d", fold, code)
	}
	for i, l := range links[1:] {
		if len(l.im.Forest.Pages) != 0 || !slices.Equal(l.im.Refs, []int{1, 2, 0}) {
			t.Errorf("P15.3: image %d: %v, %d pages", i+1, l.im.Refs, len(l.im.Forest.Pages))
		}
	}
}

// TestAKeyThatComesAgain: a key that was away for a while may come again with another page: it is written.
func TestAKeyThatComesAgain(t *testing.T) {
	at := 0
	links := forged(t, 3, 1, func() (api.Forest, []api.Key) {
		at++
		if at == 2 {
			return plot(nil), nil
		}
		return plot([]api.CapRec{held(0, 15, 0)}, page(uint32(at))), keysOf(5, 8)
	})
	if fold, code := chain.Load(rawsOf(links)); code != api.OK || !slices.Equal(fold.Forest.Pages, []api.Page{page(3)}) {
		t.Errorf("P15.2: %+v, %d", fold, code)
	}
}

func TestGreatestChain(t *testing.T) {
	d := dice(3)
	p := newPool(&d)
	f := greatest()
	links := forged(t, 5, api.MaxGen-4, func() (api.Forest, []api.Key) {
		p.stir(&d)
		return p.told(&d, f)
	})
	fold, code := chain.Load(rawsOf(links))
	if code != api.OK || !alikeFolds(fold, links[4].fold) || fold.Gen != api.MaxGen {
		t.Errorf("P15.2: the greatest chain: %d, %d", fold.Gen, code)
	}
	if _, code := chain.Next(fold, links[4].ident, f, fold.Keys); code != api.ErrImage {
		t.Errorf("P15.1: Next behind the last generation: %d", code)
	}
}

// TestNoOtherListIsAChain: of all lists of up to five of a chain's images just those that leave out last ones are taken.
func TestNoOtherListIsAChain(t *testing.T) {
	d := dice(4)
	links := forged(t, 5, 1, func() (api.Forest, []api.Key) {
		f := f1()
		f.Envs[0].Regs.PC = d.word()
		return f, keysOf(5, 8, 6, 9)
	})
	raws := rawsOf(links)
	taken := 0
	var try func(list []int)
	try = func(list []int) {
		picked := [][]byte{}
		first := true
		for i, at := range list {
			picked = append(picked, raws[at])
			first = first && i == at
		}
		want := api.ErrChain
		switch {
		case len(list) == 0:
			want = api.ErrNoImage
		case first && len(list) <= 5:
			want = api.OK
			taken++
		}
		fold, code := chain.Load(picked)
		if code != want || code == api.OK && !alikeFolds(fold, links[len(list)-1].fold) || code != api.OK && !alikeFolds(fold, api.Folded{}) {
			t.Errorf("P15.4: the images %v: %d, want %d", list, code, want)
		}
		for at := range raws {
			if len(list) < 5 || len(list) == 5 && first {
				try(append(slices.Clone(list), at))
			}
		}
	}
	try(nil)
	if taken != 5 {
		t.Errorf("P15.4: %d lists are chains", taken)
	}
}

// TestPutInThePlace: another image in the place of one, of the same generation and behind the same one, is no link but as the last.
func TestPutInThePlace(t *testing.T) {
	for seed := range 30 {
		d := dice(seed)
		links := grownChain(t, &d, 5)
		for i, l := range links {
			f := cloned(l.fold.Forest)
			f.Envs[0].Regs.R[3] ^= 1
			other, code := chain.Full(f, l.fold.Keys, l.fold.Gen)
			if i > 0 {
				other, code = chain.Next(links[i-1].fold, links[i-1].ident, f, l.fold.Keys)
			}
			raw := encoded(t, other)
			if code != api.OK || image.Ident(raw) == l.ident {
				t.Fatalf("P15.4: seed %d: image %d: %d", seed, i, code)
			}
			raws := rawsOf(links)
			raws[i] = raw
			for n := i + 1; n <= 5; n++ {
				want := api.ErrChain
				if n == i+1 {
					want = api.OK
				}
				if _, code := loads(t, "another image in the place of one", raws[:n]); code != want {
					t.Errorf("P15.4: seed %d: another image %d of %d: %d, want %d", seed, i, n, code, want)
				}
			}
		}
	}
}

// TestBurst: no chain in which a burst changed an image is taken.
func TestBurst(t *testing.T) {
	d := dice(5)
	links := grownChain(t, &d, 3)
	for i, l := range links {
		for at := range 8 * len(l.raw) {
			for _, mask := range []uint32{1, d.word() | 1} {
				raw, code := crc.Burst(l.raw, at, mask)
				if code != api.OK {
					continue
				}
				raws := rawsOf(links)
				raws[i] = raw
				if fold, code := chain.Load(raws); code != api.ErrImage || !alikeFolds(fold, api.Folded{}) {
					t.Fatalf("P15.4: the burst %08x at bit %d of image %d: %d", mask, at, i, code)
				}
			}
		}
	}
}
