package image_test

import (
	"math"
	"slices"
	"testing"

	"amber/api"
	"amber/image"
)

// checks holds Check, Encode and Valid of an image against the model.
func checks(t *testing.T, what string, im api.Image) {
	t.Helper()
	kept := cloned(im)
	section, sentinel := checkModel(im), error(nil)
	if section != fine {
		sentinel = image.ErrForest
	}
	told(t, "P13.1: Check of "+what, image.Check(im), sentinel, section)
	b, err := image.Encode(im)
	told(t, "P13.1: Encode of "+what, err, sentinel, section)
	if (len(b) == 0) != (section != fine) || section != fine && b != nil {
		t.Errorf("P13.1: Encode of %s tells %d bytes", what, len(b))
	}
	valids(t, "the forest of "+what, im.Forest)
	if section == fine {
		valids(t, "the whole forest of "+what, filled(im))
		if err := image.Valid(filled(im)); err != nil {
			t.Errorf("P13.5: Check takes %s, but Valid of its whole forest answers %v", what, err)
		}
	}
	if !alike(im, kept) {
		t.Errorf("P13.5: %s was changed", what)
	}
}

func valids(t *testing.T, what string, f api.Forest) {
	t.Helper()
	section, sentinel := validModel(f), error(nil)
	if section != fine {
		sentinel = image.ErrForest
	}
	told(t, "P13.1: Valid of "+what, image.Valid(f), sentinel, section)
}

// filled: the forest with a page for each class.
func filled(im api.Image) api.Forest {
	f := im.Forest
	f.Pages = make([]api.Page, len(im.Keys))
	return f
}

func TestCheckExamples(t *testing.T) {
	for _, c := range []struct {
		what    string
		change  func(*api.Image)
		section int
	}{
		{"the smallest", func(*api.Image) {}, fine},
		{"Frozen false", func(im *api.Image) { im.Forest.Envs[0].Frozen = false }, 1},
		{"Gen 0", func(im *api.Image) { im.Gen = 0 }, 0},
		{"Parent 0", func(im *api.Image) { im.Forest.Envs[0].Parent = 0 }, 1},
		{"a page, but no key", func(im *api.Image) { im.Forest.Pages = make([]api.Page, 1) }, 5},
		{"a class that nobody names", func(im *api.Image) {
			im.Keys, im.Refs, im.Forest.Pages = []api.Key{{Serial: 1}}, []int{-1}, make([]api.Page, 1)
		}, 2},
	} {
		im := smallest()
		c.change(&im)
		expect(t, c.what, im, c.section)
	}
	told(t, "P13.1: Check of no image", image.Check(api.Image{}), image.ErrForest, 0)
	told(t, "P13.1: Valid of no forest", image.Valid(api.Forest{}), image.ErrForest, 1)
}

// expect: a section by hand, which the model must tell too.
func expect(t *testing.T, what string, im api.Image, section int) {
	t.Helper()
	sentinel := image.ErrForest
	if section == fine {
		sentinel = nil
	}
	told(t, "P13.1: Check of "+what, image.Check(im), sentinel, section)
	checks(t, what, im)
}

// change: of the rich image, by hand, with what Check must tell then.
type change struct {
	what    string
	do      func(*api.Image)
	section int
}

func changes() []change {
	env := func(i int, do func(*api.EnvRec)) func(*api.Image) {
		return func(im *api.Image) { do(&im.Forest.Envs[i]) }
	}
	capa := func(i int, do func(*api.CapRec)) func(*api.Image) {
		return func(im *api.Image) { do(&im.Forest.Caps[i]) }
	}
	mapped := func(i int, do func(*api.MapRec)) func(*api.Image) {
		return func(im *api.Image) { do(&im.Forest.Maps[i]) }
	}
	return []change{
		{"nothing", func(*api.Image) {}, fine},
		{"Gen -1", func(im *api.Image) { im.Gen, im.Prev = -1, -2 }, 0},
		{"Gen 1", func(im *api.Image) { im.Gen, im.Prev = 1, 0 }, 0},
		{"Gen 2", func(im *api.Image) { im.Gen, im.Prev = 2, 1 }, fine},
		{"the last Gen", func(im *api.Image) { im.Gen, im.Prev = api.MaxGen, api.MaxGen-1 }, fine},
		{"Gen above the last", func(im *api.Image) { im.Gen, im.Prev = api.MaxGen+1, api.MaxGen }, 0},
		{"Prev is Gen", func(im *api.Image) { im.Prev++ }, 0},
		{"Prev two ahead", func(im *api.Image) { im.Prev-- }, 0},
		{"Prev the greatest number", func(im *api.Image) { im.Prev = math.MaxInt }, 0},
		{"Prev the lowest number", func(im *api.Image) { im.Prev = math.MinInt }, 0},
		{"PrevIdent 0", func(im *api.Image) { im.PrevIdent = 0 }, fine},
		{"full, but Prev", func(im *api.Image) { im.Incr, im.PrevIdent = false, 0 }, 0},
		{"full, but PrevIdent", func(im *api.Image) { im.Incr, im.Prev = false, 0 }, 0},
		{"full, but Refs", func(im *api.Image) { im.Incr, im.Prev, im.PrevIdent = false, 0, 0 }, 4},
		{"full, with all pages", func(im *api.Image) {
			im.Incr, im.Prev, im.PrevIdent, im.Refs = false, 0, 0, []int{-1, -1, -1}
			im.Forest.Pages = make([]api.Page, 3)
		}, fine},
		{"a Ref too many", func(im *api.Image) { im.Refs = append(im.Refs, 1) }, 4},
		{"a Ref too few", func(im *api.Image) { im.Refs = im.Refs[:2] }, 4},
		{"no Refs", func(im *api.Image) { im.Refs = nil }, 4},
		{"Ref 64", func(im *api.Image) { im.Refs[0] = 64 }, 4},
		{"Ref -2", func(im *api.Image) { im.Refs[2] = -2 }, 4},
		{"two Refs alike", func(im *api.Image) { im.Refs[0] = 0 }, fine},
		{"Serial 0", func(im *api.Image) { im.Keys[2].Serial = 0 }, 4},
		{"the last Serial", func(im *api.Image) { im.Keys[2].Serial = api.MaxSerial }, fine},
		{"Serial above the last", func(im *api.Image) { im.Keys[2].Serial = api.MaxSerial + 1 }, 4},
		{"Mark -1", func(im *api.Image) { im.Keys[0].Mark = -1 }, 4},
		{"Mark above the last", func(im *api.Image) { im.Keys[0].Mark = api.MaxSerial + 1 }, 4},
		{"Serials alike", func(im *api.Image) { im.Keys[2].Serial = im.Keys[0].Serial }, 4},
		{"Marks alike", func(im *api.Image) { im.Keys[2].Mark = im.Keys[0].Mark }, fine},
		{"a page too many", func(im *api.Image) { im.Forest.Pages = make([]api.Page, 2) }, 5},
		{"a page too few", func(im *api.Image) { im.Forest.Pages = nil }, 5},
		{"a Ref without its page", func(im *api.Image) { im.Refs[0] = -1 }, 5},

		{"no environments", func(im *api.Image) { im.Forest.Envs = nil }, 1},
		{"the first's Parent 1", env(0, func(e *api.EnvRec) { e.Parent = 1 }), 1},
		{"the first's Parent -2", env(0, func(e *api.EnvRec) { e.Parent = -2 }), 1},
		{"its own Parent", env(1, func(e *api.EnvRec) { e.Parent = 1 }), 1},
		{"a Parent behind it", env(1, func(e *api.EnvRec) { e.Parent = 2 }), 1},
		{"a second without a Parent", env(1, func(e *api.EnvRec) { e.Parent = -1 }), 1},
		{"a third without a Parent", env(2, func(e *api.EnvRec) { e.Parent = -1 }), 1},
		{"Parent -2", env(2, func(e *api.EnvRec) { e.Parent = -2 }), 1},
		{"Parent 16", env(2, func(e *api.EnvRec) { e.Parent = 16 }), 1},
		{"a Parent further up", func(im *api.Image) { im.Forest.Envs[0].Quota.Frames, im.Forest.Envs[2].Parent = 9, 0 }, fine},
		{"State 5", env(1, func(e *api.EnvRec) { e.State = 5 }), 1},
		{"State -1", env(0, func(e *api.EnvRec) { e.State = -1 }), 1},
		{"State 3", env(0, func(e *api.EnvRec) { e.State = 3 }), fine},
		{"Code -1", env(2, func(e *api.EnvRec) { e.Code = -1 }), 1},
		{"Code above a word", env(0, func(e *api.EnvRec) { e.Code = api.MaxWord + 1 }), 1},
		{"Bits -1", env(0, func(e *api.EnvRec) { e.Bits = -1 }), 1},
		{"Bits above a word", env(1, func(e *api.EnvRec) { e.Bits = api.MaxWord + 1 }), 1},
		{"64 frames", env(0, func(e *api.EnvRec) { e.Quota.Frames = 64 }), fine},
		{"65 frames", env(0, func(e *api.EnvRec) { e.Quota.Frames = 65 }), 1},
		{"-1 frames", env(2, func(e *api.EnvRec) { e.Quota.Frames = -1 }), 1},
		{"15 environments", env(0, func(e *api.EnvRec) { e.Quota.Envs = 15 }), fine},
		{"16 environments", env(0, func(e *api.EnvRec) { e.Quota.Envs = 16 }), 1},
		{"-1 environments", env(2, func(e *api.EnvRec) { e.Quota.Envs = -1 }), 1},
		{"32 extents", env(0, func(e *api.EnvRec) { e.Quota.Extents = 32 }), fine},
		{"33 extents", env(0, func(e *api.EnvRec) { e.Quota.Extents = 33 }), 1},
		{"-1 extents", env(2, func(e *api.EnvRec) { e.Quota.Extents = -1 }), 1},
		{"a first that isn't frozen", env(0, func(e *api.EnvRec) { e.Frozen = false }), 1},
		{"a second that isn't frozen", env(1, func(e *api.EnvRec) { e.Frozen = false }), fine},

		{"an out of kind 0", func(im *api.Image) { im.Forest.Outs[0].Kind = 0 }, 6},
		{"an out of kind 4", func(im *api.Image) { im.Forest.Outs[2].Kind = 4 }, 6},
		{"an out of serial 0", func(im *api.Image) { im.Forest.Outs[2].Serial = 0 }, 6},
		{"an out above the last serial", func(im *api.Image) { im.Forest.Outs[2].Serial = api.MaxSerial + 1 }, 6},
		{"outs alike", func(im *api.Image) { im.Forest.Outs[2].Kind = 3 }, 6},
		{"an out alike behind", func(im *api.Image) { im.Forest.Outs = append(im.Forest.Outs, im.Forest.Outs[0]) }, 6},
		{"an out that nobody names", func(im *api.Image) { im.Forest.Outs = append(im.Forest.Outs, api.OutRec{Kind: 1, Serial: 77}) }, 2},
		{"no outs", func(im *api.Image) { im.Forest.Outs = nil }, 2},

		{"Env -1", capa(0, func(c *api.CapRec) { c.Env = -1 }), 2},
		{"Env 3", capa(11, func(c *api.CapRec) { c.Env = 3 }), 2},
		{"Slot -1", capa(0, func(c *api.CapRec) { c.Slot = -1 }), 2},
		{"Slot -1 of the third", capa(8, func(c *api.CapRec) { c.Slot = -1 }), 2},
		{"Slot 48 of the second", capa(7, func(c *api.CapRec) { c.Slot = 48 }), 2},
		{"Slot 47", capa(11, func(c *api.CapRec) { c.Slot = 47 }), fine},
		{"Slot 48", capa(11, func(c *api.CapRec) { c.Slot = 48 }), 2},
		{"Slot 0", capa(11, func(c *api.CapRec) { c.Slot = 0 }), 2},
		{"a Slot twice", capa(11, func(c *api.CapRec) { c.Slot = 9 }), 2},
		{"an Env that falls", capa(11, func(c *api.CapRec) { c.Env = 1 }), 2},
		{"Kind 0", capa(2, func(c *api.CapRec) { c.Kind = 0 }), 2},
		{"Kind 4", capa(2, func(c *api.CapRec) { c.Kind = 4 }), 2},
		{"an outside Kind 4", capa(6, func(c *api.CapRec) { c.Kind = 4 }), 2},
		{"Rights -1", capa(0, func(c *api.CapRec) { c.Rights = -1 }), 2},
		{"Rights 16", capa(2, func(c *api.CapRec) { c.Rights = 16 }), 2},
		{"Rights 0", capa(2, func(c *api.CapRec) { c.Rights = 0 }), fine},
		{"an inside extent", capa(10, func(c *api.CapRec) { c.In = true }), 2},
		{"environment 3", capa(2, func(c *api.CapRec) { c.Obj = 3 }), 2},
		{"environment -1", capa(2, func(c *api.CapRec) { c.Obj = -1 }), 2},
		{"environment 0", capa(2, func(c *api.CapRec) { c.Obj = 0 }), fine},
		{"class 3", capa(7, func(c *api.CapRec) { c.Obj = 3 }), 2},
		{"class -1", capa(0, func(c *api.CapRec) { c.Obj = -1 }), 2},
		{"out 3", capa(6, func(c *api.CapRec) { c.Obj = 3 }), 2},
		{"out -1", capa(1, func(c *api.CapRec) { c.Obj = -1 }), 2},
		{"an out of another kind", capa(6, func(c *api.CapRec) { c.Obj = 1 }), 2},
		{"class 2 ahead of class 1", func(im *api.Image) {
			im.Forest.Caps[3].Obj, im.Forest.Caps[7].Obj = 2, 1
		}, 2},
		{"class 1 named no more", capa(3, func(c *api.CapRec) { c.Obj = 0 }), 2},
		{"the last class named no more", capa(7, func(c *api.CapRec) { c.Obj = 1 }), 2},
		{"outs in another order", func(im *api.Image) {
			o := im.Forest.Outs
			o[0], o[1] = o[1], o[0]
			for i, c := range im.Forest.Caps {
				if !c.In && c.Obj < 2 {
					im.Forest.Caps[i].Obj = 1 - c.Obj
				}
			}
		}, 2},
		{"a class that nobody owns", capa(7, func(c *api.CapRec) { c.Rights = 3 }), 2},
		{"a class owned by a second", func(im *api.Image) {
			im.Forest.Caps[0].Rights, im.Forest.Caps[5].Rights, im.Forest.Caps[5].From = 7, 13, none
		}, fine},
		{"an outside frame that is owned", capa(1, func(c *api.CapRec) { c.Rights = 15 }), 2},
		{"an outside environment that is owned", capa(6, func(c *api.CapRec) { c.Rights = 15 }), fine},
		{"a From to nothing", capa(8, func(c *api.CapRec) { c.From.Slot = 2 }), 2},
		{"a From far off", capa(8, func(c *api.CapRec) { c.From = api.Place{Env: math.MaxInt, Slot: math.MinInt} }), 2},
		{"a From with Env -1", capa(8, func(c *api.CapRec) { c.From.Env = -1 }), 2},
		{"a From with Slot -1", capa(8, func(c *api.CapRec) { c.From.Slot = -1 }), 2},
		{"a From to another class", capa(8, func(c *api.CapRec) { c.From = api.Place{Env: 0, Slot: 47} }), 2},
		{"a From to an out of the same number", capa(8, func(c *api.CapRec) { c.From = api.Place{Env: 0, Slot: 2} }), 2},
		{"a From to another kind of the same number", capa(3, func(c *api.CapRec) { c.From = api.Place{Env: 0, Slot: 3} }), 2},
		{"a From to one higher up", capa(8, func(c *api.CapRec) { c.From = api.Place{Env: 0, Slot: 1} }), fine},
		{"a From without Grant", capa(5, func(c *api.CapRec) { c.Rights = 3 }), 2},
		{"a From with fewer rights", capa(8, func(c *api.CapRec) { c.Rights = 3 }), 2},
		{"a From with fewer rights, of an extent", capa(4, func(c *api.CapRec) { c.Rights = 12 }), 2},
		{"From itself", capa(0, func(c *api.CapRec) { c.From = api.Place{Env: 0, Slot: 1} }), 2},
		{"a ring of two", func(im *api.Image) {
			im.Forest.Caps[5].Rights = 15
			im.Forest.Caps[0].From = api.Place{Env: 1, Slot: 1}
		}, 2},
		{"a ring of three", func(im *api.Image) {
			im.Forest.Caps[5].Rights, im.Forest.Caps[8].Rights = 15, 15
			im.Forest.Caps[0].From = api.Place{Env: 2, Slot: 0}
		}, 2},
		{"a way to a ring", func(im *api.Image) {
			im.Forest.Caps[5].Rights, im.Forest.Caps[8].Rights = 15, 15
			im.Forest.Caps[5].From = api.Place{Env: 2, Slot: 0}
		}, 2},
		{"a From behind it", func(im *api.Image) {
			im.Forest.Caps[0].From, im.Forest.Caps[5].From, im.Forest.Caps[5].Rights = api.Place{Env: 1, Slot: 1}, none, 15
		}, fine},

		{"a page's Env -1", mapped(0, func(m *api.MapRec) { m.Env = -1 }), 3},
		{"a page's Env 3", mapped(4, func(m *api.MapRec) { m.Env = 3 }), 3},
		{"V -1", mapped(0, func(m *api.MapRec) { m.V = -1 }), 3},
		{"V -1 of the third", mapped(3, func(m *api.MapRec) { m.V = -1 }), 3},
		{"V 16", mapped(1, func(m *api.MapRec) { m.V = 16 }), 3},
		{"V twice", mapped(4, func(m *api.MapRec) { m.V = 0 }), 3},
		{"V that falls", mapped(3, func(m *api.MapRec) { m.V = 2 }), 3},
		{"a page's Env that falls", mapped(4, func(m *api.MapRec) { m.Env, m.Slot = 1, 1 }), 3},
		{"a page of an empty slot", mapped(0, func(m *api.MapRec) { m.Slot = 0 }), 3},
		{"a page of slot -1", mapped(0, func(m *api.MapRec) { m.Slot = -1 }), 3},
		{"a page of slot 48", mapped(0, func(m *api.MapRec) { m.Slot = 48 }), 3},
		{"a page of another's slot", mapped(2, func(m *api.MapRec) { m.Slot = 2 }), 3},
		{"a page of an environment", mapped(1, func(m *api.MapRec) { m.Slot = 3 }), 3},
		{"a page of an extent", mapped(3, func(m *api.MapRec) { m.Slot, m.Write = 9, false }), 3},
		{"a page without Write", mapped(2, func(m *api.MapRec) { m.Write = true }), 3},
		{"a page without Read", func(im *api.Image) { im.Forest.Caps[9].Rights = 2 }, 3},
		{"a page read alone", mapped(0, func(m *api.MapRec) { m.Write = false }), fine},
		{"no pages mapped", func(im *api.Image) { im.Forest.Maps = nil }, fine},

		{"just enough frames", env(0, func(e *api.EnvRec) { e.Quota.Frames = 7 }), fine},
		{"too few frames", env(0, func(e *api.EnvRec) { e.Quota.Frames = 6 }), 1},
		{"a child's frames too few", env(1, func(e *api.EnvRec) { e.Quota.Frames = 3 }), 1},
		{"a leaf's frames too few", env(2, func(e *api.EnvRec) { e.Quota.Frames = 1 }), 1},
		{"just enough environments", env(0, func(e *api.EnvRec) { e.Quota.Envs = 2 }), fine},
		{"too few environments", env(0, func(e *api.EnvRec) { e.Quota.Envs = 1 }), 1},
		{"a child's environments too few", env(1, func(e *api.EnvRec) { e.Quota.Envs = 0 }), 1},
		{"just enough extents", env(0, func(e *api.EnvRec) { e.Quota.Extents = 2 }), fine},
		{"too few extents", env(0, func(e *api.EnvRec) { e.Quota.Extents = 1 }), 1},
		{"a child's extents too few", env(1, func(e *api.EnvRec) { e.Quota.Extents = 1 }), 1},
		{"a leaf's extents too few", env(2, func(e *api.EnvRec) { e.Quota.Extents = 0 }), 1},
	}
}

func TestChanges(t *testing.T) {
	for _, c := range changes() {
		im := rich()
		c.do(&im)
		expect(t, c.what, im, c.section)
	}
}

// TestTwoChanges: the first rule that is broken is told, whichever two are. Where the second change finds no place left, there is but one.
func TestTwoChanges(t *testing.T) {
	all := changes()
	for _, first := range all {
		for _, second := range all {
			im := rich()
			first.do(&im)
			if len(im.Forest.Envs) == 3 && len(im.Forest.Maps) == 5 && len(im.Forest.Outs) >= 3 && len(im.Refs) >= 3 {
				second.do(&im)
			}
			checks(t, first.what+" and "+second.what, im)
		}
	}
}

// TestLimitsOfLists: as many as there may be, and one more.
func TestLimitsOfLists(t *testing.T) {
	im := smallest()
	im.Forest.Envs[0].Quota.Envs = 15
	for len(im.Forest.Envs) < 16 {
		im.Forest.Envs = append(im.Forest.Envs, api.EnvRec{Parent: 0})
	}
	expect(t, "16 environments", im, fine)
	im.Forest.Envs = append(im.Forest.Envs, api.EnvRec{Parent: 0})
	expect(t, "17 environments", im, 1)
	im.Forest.Outs = []api.OutRec{{Kind: 4, Serial: 1}}
	expect(t, "17 environments and no out", im, 1)

	im = smallest()
	for i := range 16 {
		im.Forest.Envs = append(im.Forest.Envs[:i], api.EnvRec{Parent: i - 1, Frozen: i == 0, Quota: api.Quota{Envs: 15 - i}})
	}
	expect(t, "16 environments in a row", im, fine)
	im.Forest.Envs[7].Quota.Envs--
	expect(t, "16 environments in a row with too few", im, 1)

	im = greatest()
	expect(t, "64 classes", im, fine)
	im.Keys = append(im.Keys, api.Key{Serial: 1})
	im.Refs = append(im.Refs, -1)
	im.Forest.Pages = append(im.Forest.Pages, api.Page{})
	expect(t, "65 classes", im, 4)
	valids(t, "65 classes", im.Forest)
	told(t, "P13.1: Valid of 65 pages", image.Valid(api.Forest{Pages: make([]api.Page, 65)}), image.ErrForest, 5)
	told(t, "P13.1: Valid of 64 pages", image.Valid(api.Forest{Pages: make([]api.Page, 64)}), image.ErrForest, 1)

	im = greatest()
	im.Forest.Caps = append(im.Forest.Caps, im.Forest.Caps[767])
	expect(t, "769 capabilities", im, 2)
	im = greatest()
	im.Forest.Maps = append(im.Forest.Maps, im.Forest.Maps[255])
	expect(t, "257 mapped pages", im, 3)
}

// TestLongWays: a derivation through all slots of all lists, and the ring that its end could make.
func TestLongWays(t *testing.T) {
	im := greatest()
	im.Keys, im.Refs, im.Forest.Pages, im.Forest.Maps, im.Forest.Outs = nil, nil, nil, nil, nil
	caps := im.Forest.Caps
	for i := range caps {
		caps[i].Kind, caps[i].In, caps[i].Obj, caps[i].From = api.KindEnv, true, 3, none
		if i > 0 {
			caps[i].From = api.Place{Env: caps[i-1].Env, Slot: caps[i-1].Slot}
		}
	}
	expect(t, "a way through all slots", im, fine)
	caps[0].From = api.Place{Env: 15, Slot: 47}
	expect(t, "a ring through all slots", im, 2)
	caps[0].From = none
	for i := range caps {
		caps[i].From = none
		if i < len(caps)-1 {
			caps[i].From = api.Place{Env: caps[i+1].Env, Slot: caps[i+1].Slot}
		}
	}
	expect(t, "a way through all slots, backwards", im, fine)
	caps[767].From = api.Place{Env: 9, Slot: 9}
	expect(t, "a way that ends in a ring", im, 2)
}

// TestManyOuts: outs are held against one another however many there are, ahead of whether they are named.
func TestManyOuts(t *testing.T) {
	im := smallest()
	for i := range 200000 {
		im.Forest.Outs = append(im.Forest.Outs, api.OutRec{Kind: 1 + i%3, Serial: 1 + i/3})
	}
	told(t, "P13.1: Check of many outs", image.Check(im), image.ErrForest, 2)
	im.Forest.Outs = append(im.Forest.Outs, api.OutRec{Kind: 2, Serial: 500})
	told(t, "P13.1: Check of many outs, two alike", image.Check(im), image.ErrForest, 6)
}

var odds = []int{math.MinInt, -api.MaxWord, -256, -2, -1, 0, 1, 2, 3, 4, 5, 7, 8, 12, 14, 15, 16, 17, 31, 32, 33, 47, 48, 49, 63, 64, 65, 254, 255, 256, 65535, 65536, api.MaxWord - 1, api.MaxWord, api.MaxWord + 1, api.MaxSerial - 1, api.MaxSerial, api.MaxSerial + 1, math.MaxInt}

// pick: a place of a list with one in it at least.
func pick[T any](d *dice, list []T) *T {
	if len(list) == 0 {
		return new(T)
	}
	return &list[d.below(len(list))]
}

// oddNumber changes one number of an image, or one flag.
func oddNumber(d *dice, im *api.Image) {
	f := &im.Forest
	e, c, m, o, k := pick(d, f.Envs), pick(d, f.Caps), pick(d, f.Maps), pick(d, f.Outs), pick(d, im.Keys)
	switch d.below(20) {
	case 0:
		c.In = !c.In
		return
	case 1:
		m.Write = !m.Write
		return
	case 2:
		e.Frozen = !e.Frozen
		return
	case 3:
		im.Incr = !im.Incr
		return
	case 4: // likely enough to be one that may be
		from := pick(d, f.Caps)
		c.From = api.Place{Env: from.Env, Slot: from.Slot}
		return
	}
	numbers := []*int{
		&im.Gen, &im.Prev, &k.Serial, &k.Mark, pick(d, im.Refs), &o.Kind, &o.Serial,
		&e.Parent, &e.State, &e.Code, &e.Bits, &e.Quota.Frames, &e.Quota.Envs, &e.Quota.Extents,
		&c.Env, &c.Slot, &c.Kind, &c.Rights, &c.Obj, &c.From.Env, &c.From.Slot, &c.Rights, &c.Obj, &c.Obj,
		&m.Env, &m.V, &m.Slot, &m.Slot,
	}
	n := pick(d, numbers)
	if d.one(2) {
		**n += 1 - 2*d.below(2)
	} else {
		**n = odds[d.below(len(odds))]
	}
}

// oddList leaves one out of a list, doubles one, or lets two change places.
func oddList(d *dice, im *api.Image) {
	f := &im.Forest
	switch d.below(7) {
	case 0:
		f.Envs = shuffled(d, f.Envs)
	case 1:
		f.Caps = shuffled(d, f.Caps)
	case 2:
		f.Maps = shuffled(d, f.Maps)
	case 3:
		f.Pages = shuffled(d, f.Pages)
	case 4:
		f.Outs = shuffled(d, f.Outs)
	case 5:
		im.Keys = shuffled(d, im.Keys)
	case 6:
		im.Refs = shuffled(d, im.Refs)
	}
}

func shuffled[T any](d *dice, list []T) []T {
	if len(list) == 0 {
		return list
	}
	a, b := d.below(len(list)), d.below(len(list))
	switch d.below(3) {
	case 0:
		return slices.Delete(list, a, a+1)
	case 1:
		return slices.Insert(list, b, list[a])
	}
	list[a], list[b] = list[b], list[a]
	return list
}

// TestCheckOfOdds: images by dice, with a few changes, held against the model.
func TestCheckOfOdds(t *testing.T) {
	taken := 0
	for seed := range 8000 {
		d := dice(seed)
		im := grown(&d)
		if checkModel(im) != fine {
			t.Fatalf("seed %d: what has grown may not be: section %d of %+v", seed, checkModel(im), im)
		}
		for range d.below(4) {
			if d.one(5) {
				oddList(&d, &im)
			} else {
				oddNumber(&d, &im)
			}
		}
		checks(t, "an odd image", im)
		if t.Failed() {
			t.Fatalf("P13.1: seed %d: %+v", seed, im)
		}
		if checkModel(im) == fine {
			taken++
		}
	}
	if taken < 1000 || taken > 7000 {
		t.Errorf("%d of 8000 images may be: the dice are lopsided", taken)
	}
}
