package image_test

import (
	"bytes"
	"slices"
	"sync"
	"testing"

	"amber/api"
	"amber/crc"
	"amber/image"
)

func TestBackAndForth(t *testing.T) {
	seen := map[string]api.Image{}
	for seed := range 3000 {
		d := dice(seed)
		im := grown(&d)
		b := encoded(t, im)
		if got, err := image.Decode(b); err != nil || !alike(got, im) {
			t.Fatalf("P13.2: seed %d: %+v, %v, want %+v", seed, got, err, im)
		}
		if other, was := seen[string(b)]; was && !alike(other, im) {
			t.Fatalf("P13.2: seed %d: two images have one form: %+v, %+v", seed, other, im)
		}
		seen[string(b)] = im
		oddNumber(&d, &im)
		next, err := image.Encode(im)
		if other, was := seen[string(next)]; err == nil && was && !alike(other, im) {
			t.Fatalf("P13.2: seed %d: two images have one form: %+v, %+v", seed, other, im)
		}
	}
}

// burst: no image that a burst made may be taken.
func burst(t *testing.T, b []byte, at int, mask uint32) {
	t.Helper()
	odd, code := crc.Burst(b, at, mask)
	if code != api.OK || mask == 0 {
		return
	}
	if im, err := image.Decode(odd); err == nil || !alike(im, api.Image{}) {
		t.Errorf("P13.3: the burst %08x at bit %d of %d is taken", mask, at, 8*len(b))
	}
}

func TestBursts(t *testing.T) {
	d := dice(1)
	for _, im := range []api.Image{smallest(), rich(), grown(&d), grown(&d)} {
		b := encoded(t, im)
		for at := range 8 * len(b) {
			for _, mask := range []uint32{1, 3, 0xff, 0x80000001, 0xffffffff, 0xedb88320, 0xdb710641, 0x82608edb, d.word() | 1, d.word() | 1, d.word()} {
				burst(t, b, at, mask)
			}
		}
	}
	b := encoded(t, greatest())
	for range 1000 {
		burst(t, b, d.below(8*len(b)), d.word()|1)
	}
}

// TestBurstsOverBounds: where a guarded part ends and the next begins, no part's own sum need change by itself.
func TestBurstsOverBounds(t *testing.T) {
	d := dice(2)
	b := encoded(t, rich())
	ends := []int{4, 8, 20, 68, 72, 76}
	for s := 1; s <= 6; s++ {
		_, end := bounds(b, s)
		ends = append(ends, end)
	}
	for _, end := range ends {
		for at := max(8*end-32, 0); at < 8*end; at++ {
			for range 60 {
				burst(t, b, at, d.word()|1)
			}
		}
	}
}

// TestCutOrLonger: every cut of images, and bytes of some kinds behind them, the image's own too.
func TestCutOrLonger(t *testing.T) {
	d := dice(3)
	images := []api.Image{smallest(), rich()}
	for range 20 {
		images = append(images, grown(&d))
	}
	for _, im := range images {
		b := encoded(t, im)
		refused := func(what string, data []byte) {
			t.Helper()
			if got, err := image.Decode(data); err == nil || !alike(got, api.Image{}) {
				t.Errorf("P13.4: %d bytes of an image of %d, %s, are taken", len(data), len(b), what)
			}
		}
		for n := range b {
			refused("cut", b[:n])
			refused("cut ahead", b[n+1:])
		}
		for n := 1; n <= 200; n++ {
			refused("longer by zeros", append(bytes.Clone(b), make([]byte, n)...))
			refused("longer by its own bytes", append(bytes.Clone(b), b[:min(n, len(b))]...))
			refused("longer by its last bytes", append(bytes.Clone(b), b[len(b)-min(n, len(b)):]...))
		}
		refused("twice", append(bytes.Clone(b), b...))
		refused("with its sum behind it", append(bytes.Clone(b), b[72:76]...))
		refused("ahead of zeros up to the bound", append(bytes.Clone(b), make([]byte, api.MaxImage-len(b))...))
		refused("behind a zero", append([]byte{0}, b...))
	}
}

// spare writes over all memory of a list, spare room included.
func spare[T any](list []T, v T) {
	for i := range list[:cap(list)] {
		list[:cap(list)][i] = v
	}
}

func TestNothingIsShared(t *testing.T) {
	im := rich()
	b := encoded(t, im)
	kept := bytes.Clone(b)
	im.Forest.Pages[0][0], im.Keys[0].Serial, im.Forest.Envs[0].Code = 9, 99, 999
	if !bytes.Equal(b, kept) {
		t.Error("P13.1: what Encode answered changes with the image")
	}
	again := encoded(t, rich())
	spare(b, 0xaa)
	if !bytes.Equal(again, kept) {
		t.Error("P13.1: two answers of Encode share memory")
	}
	data := bytes.Clone(kept)
	one, _ := image.Decode(data)
	two, _ := image.Decode(data)
	spare(data, 0xaa)
	if !alike(one, rich()) {
		t.Error("P13.1: what Decode answered changes with the bytes")
	}
	f := one.Forest
	lists := []func(){
		func() { spare(f.Envs, api.EnvRec{Code: 7}) }, func() { spare(f.Caps, api.CapRec{Obj: 7}) }, func() { spare(f.Maps, api.MapRec{V: 7}) },
		func() { spare(f.Pages, api.Page{7}) }, func() { spare(f.Outs, api.OutRec{Kind: 7}) }, func() { spare(one.Keys, api.Key{Mark: 7}) }, func() { spare(one.Refs, 7) },
	}
	for i, spoil := range lists {
		before := cloned(one)
		spoil()
		same := []bool{
			slices.Equal(f.Envs, before.Forest.Envs), slices.Equal(f.Caps, before.Forest.Caps), slices.Equal(f.Maps, before.Forest.Maps),
			slices.Equal(f.Pages, before.Forest.Pages), slices.Equal(f.Outs, before.Forest.Outs), slices.Equal(one.Keys, before.Keys), slices.Equal(one.Refs, before.Refs),
		}
		for j, ok := range same {
			if ok == (i == j) {
				t.Errorf("P13.1: list %d written over, list %d the same: %v", i, j, ok)
			}
		}
	}
	if !alike(two, rich()) {
		t.Error("P13.1: two answers of Decode share memory")
	}
}

// TestFaultsAreApart: an answered error changed by the caller says nothing to the next.
func TestFaultsAreApart(t *testing.T) {
	for _, ask := range []func() error{
		func() error { return image.Check(api.Image{}) },
		func() error { return image.Valid(api.Forest{}) },
		func() error { _, err := image.Encode(api.Image{}); return err },
		func() error { _, err := image.Decode(nil); return err },
		func() error { _, err := image.Decode(make([]byte, 76)); return err },
	} {
		f, ok := ask().(*image.Fault)
		if !ok {
			t.Fatal("P13.1: an error that is no *Fault")
		}
		kept := *f
		*f = image.Fault{Section: 5, Err: image.ErrVersion}
		if g, _ := ask().(*image.Fault); *g != kept {
			t.Errorf("P13.1: %v, want %v", g, &kept)
		}
	}
}

// TestNothingIsKept: whatever was asked before, or is asked beside it, the answers are the same.
func TestNothingIsKept(t *testing.T) {
	b := encoded(t, rich())
	var done sync.WaitGroup
	for i := range 8 {
		done.Go(func() {
			d := dice(i)
			for range 100 {
				im := grown(&d)
				oddNumber(&d, &im)
				checks(t, "an odd image beside others", im)
				decodes(t, "an odd image beside others", edited(b, d.below(len(b)), byte(d.below(256))))
			}
			checks(t, "the rich beside others", rich())
			decodes(t, "the rich beside others", b)
		})
	}
	done.Wait()
}
