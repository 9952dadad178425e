package ferry_test

import (
	"bytes"
	"fmt"
	"slices"
	"testing"

	"amber/api"
	"amber/ferry"
	"amber/image"
	"amber/squeeze"
)

// packed: an image as the bytes of a cargo.
func packed(t *testing.T, im api.Image) []byte {
	t.Helper()
	b, err := image.Encode(im)
	if err != nil {
		t.Fatalf("no image: %v", err)
	}
	return squeezed(t, b)
}

func squeezed(t *testing.T, b []byte) []byte {
	t.Helper()
	p, code := squeeze.Pack(b)
	if code != api.OK {
		t.Fatalf("Pack: %d", code)
	}
	return p
}

// ferried: Load makes of a forest what it must, and Unload the forest again.
func ferried(t *testing.T, what string, f api.Forest) []byte {
	t.Helper()
	was := cloned(f)
	cargo, code := ferry.Load(f)
	if want := packed(t, imageOf(f)); code != api.OK || !bytes.Equal(cargo, want) {
		t.Fatalf("P22.1: %s: Load: %d bytes, %d, want %d bytes", what, len(cargo), code, len(want))
	}
	back, code := ferry.Unload(cargo)
	if code != api.OK || !alike(back, was) || !alike(f, was) {
		t.Fatalf("P22.2: %s: Unload tells another forest, %d", what, code)
	}
	again, code := ferry.Load(back)
	if code != api.OK || !bytes.Equal(again, cargo) {
		t.Fatalf("P22.2: %s: what Unload took Load gives otherwise, %d", what, code)
	}
	if len(cargo) > api.MaxCargo {
		t.Fatalf("P22.1: %s: a cargo of %d bytes", what, len(cargo))
	}
	return cargo
}

func noLoad(t *testing.T, what string, f api.Forest, want api.Errno) {
	t.Helper()
	if cargo, code := ferry.Load(f); code != want || cargo != nil {
		t.Fatalf("P22.1: %s: Load: %d bytes, %d, want nil, %d", what, len(cargo), code, want)
	}
}

func noUnload(t *testing.T, what string, cargo []byte, want api.Errno) {
	t.Helper()
	if f, code := ferry.Unload(cargo); code != want || !alike(f, api.Forest{}) {
		t.Fatalf("P22.1: %s: Unload: %+v, %d, want nothing, %d", what, f, code, want)
	}
}

func TestForestsThere(t *testing.T) {
	ferried(t, "the smallest", smallest())
	ferried(t, "two classes", twoClasses())
	if n := len(ferried(t, "the greatest", greatest())); n < 10000 || n > 25000 {
		t.Errorf("P22.1: the greatest forest's cargo has %d bytes", n)
	}
	seen := map[string]int{}
	for seed := range 300 {
		d := dice(seed)
		cargo := ferried(t, fmt.Sprint("seed ", seed), grown(&d))
		if other, there := seen[string(cargo)]; there {
			t.Fatalf("P22.2: the seeds %d and %d have one cargo", seed, other)
		}
		seen[string(cargo)] = seed
	}
}

func TestNoForests(t *testing.T) {
	noLoad(t, "nothing", api.Forest{}, api.ErrImage)
	odd := map[string]func(f *api.Forest){
		"not frozen":                func(f *api.Forest) { f.Envs[0].Frozen = false },
		"no environment":            func(f *api.Forest) { f.Envs = nil },
		"a parent":                  func(f *api.Forest) { f.Envs[0].Parent = 0 },
		"a page too many":           func(f *api.Forest) { f.Pages = append(f.Pages, api.Page{}) },
		"a page too few":            func(f *api.Forest) { f.Pages = f.Pages[:1] },
		"65 pages":                  func(f *api.Forest) { f.Pages = make([]api.Page, 65) },
		"a slot twice":              func(f *api.Forest) { f.Caps[1].Slot = 0 },
		"no owner":                  func(f *api.Forest) { f.Caps[1].Rights = 7 },
		"a ring":                    func(f *api.Forest) { f.Caps[0].From = api.Place{} },
		"a quota too small":         func(f *api.Forest) { f.Envs[0].Quota.Frames = 1 },
		"a page that may not be":    func(f *api.Forest) { f.Maps[0].V = api.MaxPages },
		"an out that nobody names":  func(f *api.Forest) { f.Outs = []api.OutRec{{Kind: 1, Serial: 3}} },
		"an inside extent":          func(f *api.Forest) { f.Caps[1].Kind = api.KindExtent },
		"a code that is no word":    func(f *api.Forest) { f.Envs[0].Code = -1 },
		"a capability out of reach": func(f *api.Forest) { f.Caps[0].Obj = 1 << 40 },
	}
	for what, spoil := range odd {
		f := cloned(twoClasses())
		spoil(&f)
		if image.Valid(f) == nil {
			t.Fatalf("%s: the forest is valid", what)
		}
		noLoad(t, what, f, api.ErrImage)
	}
}

func TestOuts(t *testing.T) {
	for kind := api.KindFrame; kind <= api.KindExtent; kind++ {
		for name, f := range map[string]api.Forest{"smallest": smallest(), "two classes": twoClasses()} {
			f = withOut(f, api.OutRec{Kind: kind, Serial: 7})
			if err := image.Valid(f); err != nil {
				t.Fatalf("%s: %v", name, err)
			}
			what := fmt.Sprint(name, " with an out of the kind ", kind)
			noLoad(t, what, f, api.ErrStaleCap)
			noUnload(t, what, packed(t, imageOf(f)), api.ErrImage)
			f.Envs[0].Frozen = false
			noLoad(t, what+", and no forest", f, api.ErrImage)
		}
	}
}

func TestNoCargos(t *testing.T) {
	noUnload(t, "nil", nil, api.ErrPacked)
	noUnload(t, "no bytes", []byte{}, api.ErrPacked)
	noUnload(t, "three bytes", []byte{0, 0, 0}, api.ErrPacked)
	noUnload(t, "the packed text of no bytes", []byte{0, 0, 0, 0}, api.ErrImage)
	noUnload(t, "far too long", make([]byte, 1<<20), api.ErrPacked)
	noUnload(t, "a great length", []byte{255, 255, 255, 255}, api.ErrPacked)
	noUnload(t, "a token cut", []byte{1, 0, 0, 0, 0}, api.ErrPacked)
	noUnload(t, "not what Pack makes", []byte{5, 0, 0, 0, 4, 'a', 'a', 'a', 'a', 'a'}, api.ErrPacked)
	noUnload(t, "a text", squeezed(t, []byte("amber")), api.ErrImage)
	noUnload(t, "as many plain bytes as may be", squeezed(t, make([]byte, api.MaxPlain)), api.ErrImage)
	plain, _ := image.Encode(imageOf(twoClasses()))
	noUnload(t, "an image that is not packed", plain, api.ErrPacked)
	noUnload(t, "an image packed twice", squeezed(t, squeezed(t, plain)), api.ErrImage)
	noUnload(t, "an image cut", squeezed(t, plain[:len(plain)-1]), api.ErrImage)
	noUnload(t, "an image with a byte behind it", squeezed(t, append(slices.Clone(plain), 0)), api.ErrImage)
	noUnload(t, "two images", squeezed(t, append(slices.Clone(plain), plain...)), api.ErrImage)
	cargo := packed(t, imageOf(twoClasses()))
	for n := range cargo {
		noUnload(t, fmt.Sprint("cut to ", n), cargo[:n], api.ErrPacked)
	}
	noUnload(t, "longer", append(slices.Clone(cargo), 0), api.ErrPacked)
}

// Images that may be, but are none of a cargo's.
func TestOtherImages(t *testing.T) {
	key := func(serial, mark int) api.Key { return api.Key{Serial: serial, Mark: mark} }
	for what, change := range map[string]func(im *api.Image){
		"generation 2":            func(im *api.Image) { im.Gen = 2 },
		"the last generation":     func(im *api.Image) { im.Gen = api.MaxGen },
		"keys turned round":       func(im *api.Image) { im.Keys = []api.Key{key(2, 0), key(1, 0)} },
		"keys from 2 on":          func(im *api.Image) { im.Keys = []api.Key{key(2, 0), key(3, 0)} },
		"another first serial":    func(im *api.Image) { im.Keys[0] = key(9, 0) },
		"another last serial":     func(im *api.Image) { im.Keys[1] = key(3, 0) },
		"the greatest serial":     func(im *api.Image) { im.Keys[1] = key(api.MaxSerial, 0) },
		"a mark in the first key": func(im *api.Image) { im.Keys[0].Mark = 1 },
		"a mark in the last key":  func(im *api.Image) { im.Keys[1].Mark = 2 },
		"incremental":             func(im *api.Image) { im.Incr, im.Gen, im.Prev = true, 2, 1 },
		"incremental, an ident":   func(im *api.Image) { im.Incr, im.Gen, im.Prev, im.PrevIdent = true, 2, 1, 7 },
		"incremental, a page left": func(im *api.Image) {
			im.Incr, im.Gen, im.Prev, im.Refs, im.Forest.Pages = true, 2, 1, []int{0, -1}, im.Forest.Pages[1:]
		},
	} {
		im := imageOf(twoClasses())
		change(&im)
		noUnload(t, what, packed(t, im), api.ErrImage)
	}
}

// ruleUnload: the chapter's words once more.
func ruleUnload(cargo []byte) (api.Forest, api.Errno) {
	plain, code := squeeze.Unpack(cargo)
	if code != api.OK {
		return api.Forest{}, api.ErrPacked
	}
	im, err := image.Decode(plain)
	if err != nil || im.Incr || im.Gen != 1 || len(im.Forest.Outs) != 0 {
		return api.Forest{}, api.ErrImage
	}
	for c, k := range im.Keys {
		if k.Serial != c+1 || k.Mark != 0 {
			return api.Forest{}, api.ErrImage
		}
	}
	return im.Forest, api.OK
}

// unloads holds Unload against its rule; and what it takes Load gives again.
func unloads(t *testing.T, what string, cargo []byte) api.Errno {
	t.Helper()
	want, wantCode := ruleUnload(cargo)
	f, code := ferry.Unload(cargo)
	if code != wantCode || !alike(f, want) {
		t.Fatalf("P22.1: %s: Unload: %d, want %d", what, code, wantCode)
	}
	if code != api.OK {
		return code
	}
	if again, code := ferry.Load(f); code != api.OK || !bytes.Equal(again, cargo) {
		t.Fatalf("P22.2: %s: Load gives another cargo, %d", what, code)
	}
	return code
}

// resealed: the bytes of an image with all its sums made right.
func resealed(b []byte) []byte {
	b = slices.Clone(b)
	at := 76
	for s := range 6 {
		length := int(b[20+8*s]) | int(b[21+8*s])<<8 | int(b[22+8*s])<<16 | int(b[23+8*s])<<24
		end := min(max(at, at+length), len(b))
		copy(b[24+8*s:], sealed(b[at:end])[end-at:])
		at = end
	}
	copy(b[68:], sealed(b[76:])[len(b)-76:])
	return append(sealed(b[:72]), b[76:]...)
}

// Every byte of a cargo made another one; and every byte of its image, with the sums made right.
func TestEveryByteOfACargo(t *testing.T) {
	codes := map[api.Errno]int{}
	cargo := packed(t, imageOf(twoClasses()))
	for at := range cargo {
		for _, v := range []byte{1, 2, 128, 255} {
			b := slices.Clone(cargo)
			b[at] ^= v
			codes[unloads(t, fmt.Sprint("byte ", at, " of the cargo"), b)]++
		}
	}
	plain, _ := image.Encode(imageOf(twoClasses()))
	for at := range plain {
		for _, v := range []byte{1, 2, 128, 255} {
			b := slices.Clone(plain)
			b[at] ^= v
			codes[unloads(t, fmt.Sprint("byte ", at, " of the image"), squeezed(t, b))]++
			codes[unloads(t, fmt.Sprint("byte ", at, " of the image, summed anew"), squeezed(t, resealed(b)))]++
		}
	}
	if codes[api.OK] < 300 || codes[api.ErrImage] < 1000 || codes[api.ErrPacked] < 200 {
		t.Errorf("the bytes are loaded: %v", codes)
	}
}

func TestAnyCargo(t *testing.T) {
	for seed := range 2000 {
		d := dice(seed)
		b := d.bytes(d.of(d.below(10), d.below(300)))
		switch d.below(3) {
		case 0:
			b = squeezed(t, b)
		case 1:
			if len(b) >= 4 {
				b[1], b[2], b[3] = 0, 0, 0
			}
		}
		unloads(t, fmt.Sprint("seed ", seed), b)
	}
}

func TestNothingIsSharedByCargos(t *testing.T) {
	f := twoClasses()
	cargo, _ := ferry.Load(f)
	want := slices.Clone(cargo)
	other, _ := ferry.Load(f)
	scribble(cargo)
	if !alike(f, twoClasses()) || !bytes.Equal(other, want) {
		t.Fatal("P22.1: what Load answers is not new memory")
	}
	given := roomy(want)
	back, _ := ferry.Unload(given)
	if !kept(given, want) {
		t.Fatal("P22.1: Unload changes the cargo")
	}
	scribble(given)
	if !alike(back, twoClasses()) {
		t.Fatal("P22.1: Unload's forest shares memory with the cargo")
	}
	second, _ := ferry.Unload(want)
	back.Envs[0], back.Caps[0], back.Maps[0], back.Pages[0] = api.EnvRec{}, api.CapRec{}, api.MapRec{}, api.Page{}
	if !alike(second, twoClasses()) {
		t.Fatal("P22.1: two answers share memory")
	}
}
