package chain_test

import (
	"fmt"
	"math"
	"slices"
	"testing"

	"amber/api"
	"amber/chain"
)

// canons holds Canon against the chapter's words.
func canons(t *testing.T, what string, f api.Forest) (api.Forest, api.Errno) {
	t.Helper()
	want, code := canonModel(f)
	c, got := chain.Canon(f)
	if got != code || !alike(c, want) {
		t.Errorf("P15.1: Canon of %s: %+v, %d, want %+v, %d", what, c, got, want, code)
	}
	return c, got
}

// ties holds Tie and Same against the chapter's words.
func ties(t *testing.T, what string, a, b api.Forest) bool {
	t.Helper()
	classes, outs, same := tieModel(a, b)
	x, y, got := chain.Tie(a, b)
	if got != same || !slices.Equal(x, classes) || !slices.Equal(y, outs) {
		t.Errorf("P15.1: Tie of %s: %v, %v, %v, want %v, %v, %v", what, x, y, got, classes, outs, same)
	}
	if !got && (x != nil || y != nil) {
		t.Errorf("P15.1: Tie of %s: lists that are not nil beside false", what)
	}
	if chain.Same(a, b) != got {
		t.Errorf("P15.1: Same of %s: %v, Tie %v", what, !got, got)
	}
	return got
}

// order: 0 to n - 1, shuffled.
func order(d *dice, n int) []int {
	var l []int
	for i := range n {
		at := d.below(i + 1)
		l = slices.Insert(l, at, i)
	}
	return l
}

func shuffled[T any](d *dice, list []T) []T {
	var l []T
	for _, at := range order(d, len(list)) {
		l = append(l, list[at])
	}
	return l
}

// renumbered: the forest with its classes and outs numbered otherwise; the order of its capabilities stays.
func renumbered(d *dice, f api.Forest) api.Forest {
	f = cloned(f)
	classes, outs := order(d, len(f.Pages)), order(d, len(f.Outs))
	pages, things := slices.Clone(f.Pages), slices.Clone(f.Outs)
	for old, at := range classes {
		f.Pages[at] = pages[old]
	}
	for old, at := range outs {
		f.Outs[at] = things[old]
	}
	for i, c := range f.Caps {
		switch {
		case !c.In:
			f.Caps[i].Obj = outs[c.Obj]
		case c.Kind == api.KindFrame:
			f.Caps[i].Obj = classes[c.Obj]
		}
	}
	return f
}

// mixed: all that Canon sets right, undone: numbers, orders, things that nobody names.
func mixed(d *dice, f api.Forest) api.Forest {
	f = cloned(f)
	for range d.below(3) {
		f.Pages = append(f.Pages, page(d.word()))
		f.Outs = append(f.Outs, api.OutRec{Kind: d.below(9), Serial: d.below(9) - 4})
	}
	f = renumbered(d, f)
	f.Caps, f.Maps = shuffled(d, f.Caps), shuffled(d, f.Maps)
	return f
}

func TestCanonExamples(t *testing.T) {
	third := plot(f1().Caps, page(1), page(2), page(9))
	for i, f := range []api.Forest{f1(), f3(), f4(), third} {
		if c, code := canons(t, "an example", f); code != api.OK || !alike(c, f1()) {
			t.Errorf("P15.1: Canon of example %d: %+v, %d", i, c, code)
		}
	}
	if _, code := canons(t, "a class that isn't there", plot(append(f1().Caps, held(2, 15, 7)), page(1), page(2))); code != api.ErrImage {
		t.Errorf("P15.1: Canon with cap(2 15 7): %d", code)
	}
}

// TestCanonWrong: one thing that Canon can't set right at a time.
func TestCanonWrong(t *testing.T) {
	rich := func() api.Forest {
		f := f1()
		f.Envs[0].Quota.Extents = 4
		f.Caps = append(f.Caps,
			api.CapRec{Slot: 2, Kind: api.KindEnv, Rights: 15, In: true, From: none},
			api.CapRec{Slot: 3, Kind: api.KindExtent, Rights: 5, From: none},
			api.CapRec{Slot: 4, Kind: api.KindFrame, Rights: 7, Obj: 1, From: none})
		f.Outs = []api.OutRec{{Kind: 3, Serial: 7}, {Kind: 1, Serial: 8}}
		f.Maps = []api.MapRec{{V: 1, Slot: 0, Write: true}, {V: 2, Slot: 4}}
		return f
	}
	for _, c := range []struct {
		what   string
		change func(f *api.Forest)
		code   api.Errno
	}{
		{"nothing", func(*api.Forest) {}, api.OK},
		{"a class below 0", func(f *api.Forest) { f.Caps[0].Obj = -1 }, api.ErrImage},
		{"a class one behind the last", func(f *api.Forest) { f.Caps[0].Obj = 2 }, api.ErrImage},
		{"the least class", func(f *api.Forest) { f.Caps[0].Obj = math.MinInt }, api.ErrImage},
		{"the greatest class", func(f *api.Forest) { f.Caps[0].Obj = math.MaxInt }, api.ErrImage},
		{"an out below 0", func(f *api.Forest) { f.Caps[3].Obj = -1 }, api.ErrImage},
		{"an out one behind the last", func(f *api.Forest) { f.Caps[3].Obj = 2 }, api.ErrImage},
		{"the greatest out", func(f *api.Forest) { f.Caps[3].Obj = math.MaxInt }, api.ErrImage},
		{"an out of another kind", func(f *api.Forest) { f.Caps[3].Obj = 1 }, api.ErrImage},
		{"one class named twice, the other falls away", func(f *api.Forest) { f.Caps[1].Obj = 0 }, api.OK},
		{"an out with Own", func(f *api.Forest) { f.Caps[4].Rights = 15 }, api.ErrImage},
		{"a class that nobody owns", func(f *api.Forest) { f.Caps[1].Rights = 7 }, api.ErrImage},
		{"an environment that isn't there", func(f *api.Forest) { f.Caps[2].Obj = 1 }, api.ErrImage},
		{"an extent inside", func(f *api.Forest) { f.Caps[3].In = true }, api.ErrImage},
		{"a kind that isn't", func(f *api.Forest) { f.Caps[2].Kind = 4 }, api.ErrImage},
		{"one slot twice", func(f *api.Forest) { f.Caps[1].Slot = 0 }, api.ErrImage},
		{"a slot that isn't", func(f *api.Forest) { f.Caps[1].Slot = 48 }, api.ErrImage},
		{"one page twice", func(f *api.Forest) { f.Maps[1].V = 1 }, api.ErrImage},
		{"a page that may not be written", func(f *api.Forest) { f.Maps[1].Write, f.Caps[4].Rights = true, 5 }, api.ErrImage},
		{"two outs that are one", func(f *api.Forest) { f.Outs[0], f.Caps[3].Kind = f.Outs[1], 1 }, api.ErrImage},
		{"two outs that are one, of which one is not named", func(f *api.Forest) { f.Outs[0], f.Caps = f.Outs[1], append(f.Caps[:3], f.Caps[4]) }, api.OK},
		{"environments out of order", func(f *api.Forest) { f.Envs = append(f.Envs, api.EnvRec{Parent: 2}, api.EnvRec{Parent: 0}) }, api.ErrImage},
		{"no environments", func(f *api.Forest) { f.Envs = nil }, api.ErrImage},
		{"a first environment that isn't frozen", func(f *api.Forest) { f.Envs[0].Frozen = false }, api.ErrImage},
		{"a quota that isn't enough", func(f *api.Forest) { f.Envs[0].Quota.Frames = 2 }, api.ErrImage},
		{"From that leads nowhere", func(f *api.Forest) { f.Caps[0].From = api.Place{Env: 0, Slot: 9} }, api.ErrImage},
		{"a hundred pages that nobody names", func(f *api.Forest) { f.Pages = append(f.Pages, make([]api.Page, 100)...) }, api.OK},
		{"outs that may not be and that nobody names", func(f *api.Forest) { f.Outs = append(f.Outs, api.OutRec{Kind: 9, Serial: -1}, api.OutRec{}) }, api.OK},
	} {
		f := rich()
		c.change(&f)
		if _, code := canons(t, c.what, f); code != c.code {
			t.Errorf("P15.1: Canon with %s: %d, want %d", c.what, code, c.code)
		}
		d := dice(7)
		if c.code == api.OK {
			f = mixed(&d, f)
		} else {
			f.Caps, f.Maps = shuffled(&d, f.Caps), shuffled(&d, f.Maps)
		}
		if _, code := canons(t, c.what+", mixed", f); code != c.code {
			t.Errorf("P15.1: Canon with %s, mixed: %d, want %d", c.what, code, c.code)
		}
	}
	if _, code := canons(t, "nothing at all", api.Forest{}); code != api.ErrImage {
		t.Errorf("P15.1: Canon of nothing: %d", code)
	}
	many := plot(make([]api.CapRec, 2000))
	many.Outs = make([]api.OutRec, 1)
	if _, code := canons(t, "very many capabilities", many); code != api.ErrImage {
		t.Errorf("P15.1: Canon of very many: %d", code)
	}
}

// TestCanonGivesItBack: a forest that may be is its own canon, and the canon of all that were it with its lists mixed.
func TestCanonGivesItBack(t *testing.T) {
	for seed := range 200 {
		d := dice(seed)
		f := grown(&d)
		if seed == 0 {
			f = greatest()
		}
		if c, code := chain.Canon(f); code != api.OK || !alike(c, f) {
			t.Fatalf("P15.5: seed %d: %d", seed, code)
		}
		for range 5 {
			x := mixed(&d, f)
			if c, code := canons(t, "a mixed forest", x); code != api.OK || !alike(c, f) {
				t.Fatalf("P15.5: seed %d: Canon of %+v: %+v, %d, want %+v", seed, x, c, code, f)
			}
		}
	}
}

// TestSameIfEqual: two canons are the same just if they are equal.
func TestSameIfEqual(t *testing.T) {
	equals, others := 0, 0
	for seed := range 2000 {
		d := dice(seed)
		f := grown(&d)
		g := renumbered(&d, f)
		for range d.below(3) {
			meddle(&d, &g)
		}
		a, code := chain.Canon(mixed(&d, f))
		b, code2 := chain.Canon(g)
		if code != api.OK {
			t.Fatalf("P15.5: seed %d: %d", seed, code)
		}
		if code2 != api.OK {
			continue
		}
		if ties(t, "canons", a, b) != alike(a, b) {
			t.Errorf("P15.5: seed %d: same %v, equal %v", seed, chain.Same(a, b), alike(a, b))
		}
		if alike(a, b) {
			equals++
		} else {
			others++
		}
	}
	if equals < 100 || others < 100 {
		t.Errorf("P15.5: %d canons were equal, %d were not", equals, others)
	}
}

func TestTieExamples(t *testing.T) {
	if classes, outs, same := chain.Tie(f1(), f3()); !same || !slices.Equal(classes, []int{1, 0}) || len(outs) != 0 {
		t.Errorf("P15.1: Tie(f1, f3) = %v, %v, %v", classes, outs, same)
	}
	if classes, outs, same := chain.Tie(f1(), f1()); !same || !slices.Equal(classes, []int{0, 1}) || len(outs) != 0 {
		t.Errorf("P15.1: Tie(f1, f1) = %v, %v, %v", classes, outs, same)
	}
	third := plot(f1().Caps, page(1), page(2), page(9))
	alikePages := plot(f3().Caps, page(1), page(1))
	shared := plot([]api.CapRec{held(0, 15, 0), held(1, 15, 0)}, page(1))
	double := plot([]api.CapRec{held(0, 15, 0), held(1, 15, 0)}, page(1), page(1))
	for _, c := range []struct {
		what string
		a, b api.Forest
		same bool
	}{
		{"f1 and f4", f1(), f4(), false},
		{"f4 and itself", f4(), f4(), true},
		{"f1 and like pages", f1(), alikePages, false},
		{"f2 and like pages", f2(), alikePages, true},
		{"a class that nobody names", third, third, false},
		{"one of two that has a class more", f1(), third, false},
		{"a frame shared and two alike", shared, f2(), false},
		{"a frame shared and two alike, of which one is named", shared, double, false},
		{"two alike, of which one is named", double, double, false},
		{"two classes named, and one of two", f2(), double, false},
		{"nothing at all", api.Forest{}, api.Forest{}, true},
		{"nothing and something", api.Forest{}, f1(), false},
	} {
		if ties(t, c.what, c.a, c.b) != c.same || ties(t, c.what+", turned round", c.b, c.a) != c.same {
			t.Errorf("P15.1: Same of %s is not %v", c.what, c.same)
		}
	}
}

// TestTieTells: one thing that differs at a time, and what doesn't matter.
func TestTieTells(t *testing.T) {
	rich := func() api.Forest {
		f := f1()
		f.Caps = append(f.Caps,
			api.CapRec{Slot: 2, Kind: api.KindEnv, Rights: 3, In: true, From: none},
			api.CapRec{Slot: 3, Kind: api.KindExtent, Rights: 5, From: none},
			api.CapRec{Slot: 4, Kind: api.KindFrame, Rights: 7, Obj: 1, From: none},
			held(5, 1, 0))
		f.Outs = []api.OutRec{{Kind: 3, Serial: 7}, {Kind: 1, Serial: 8}}
		f.Maps = []api.MapRec{{V: 1, Slot: 0, Write: true}, {V: 2, Slot: 4}}
		return f
	}
	turned := func(f *api.Forest) {
		f.Caps[3].Obj, f.Caps[4].Obj = 1, 0
		f.Outs[0], f.Outs[1] = f.Outs[1], f.Outs[0]
	}
	for _, c := range []struct {
		what   string
		change func(f *api.Forest)
		same   bool
	}{
		{"nothing", func(*api.Forest) {}, true},
		{"the outs' numbers", turned, true},
		{"the outs' numbers, but not in the capabilities", func(f *api.Forest) { f.Outs[0], f.Outs[1] = f.Outs[1], f.Outs[0] }, false},
		{"the outs' order alone in the capabilities", func(f *api.Forest) { f.Caps[3].Obj, f.Caps[4].Obj = 1, 0 }, false},
		{"a state", func(f *api.Forest) { f.Envs[0].State = 1 }, false},
		{"a code", func(f *api.Forest) { f.Envs[0].Code = 1 }, false},
		{"notice bits", func(f *api.Forest) { f.Envs[0].Bits = 1 }, false},
		{"a flag", func(f *api.Forest) { f.Envs[0].Frozen = false }, false},
		{"a register", func(f *api.Forest) { f.Envs[0].Regs.R[7] = 1 }, false},
		{"a PC", func(f *api.Forest) { f.Envs[0].Regs.PC = 1 }, false},
		{"a quota", func(f *api.Forest) { f.Envs[0].Quota.Extents = 1 }, false},
		{"a parent", func(f *api.Forest) { f.Envs[0].Parent = 0 }, false},
		{"an environment more", func(f *api.Forest) { f.Envs = append(f.Envs, api.EnvRec{}) }, false},
		{"a mapped page's V", func(f *api.Forest) { f.Maps[1].V = 3 }, false},
		{"a mapped page's slot", func(f *api.Forest) { f.Maps[1].Slot = 5 }, false},
		{"a mapped page's Write", func(f *api.Forest) { f.Maps[1].Write = true }, false},
		{"a mapped page's Env", func(f *api.Forest) { f.Maps[1].Env = 1 }, false},
		{"a mapped page more", func(f *api.Forest) { f.Maps = append(f.Maps, api.MapRec{}) }, false},
		{"the order of mapped pages", func(f *api.Forest) { f.Maps[0], f.Maps[1] = f.Maps[1], f.Maps[0] }, false},
		{"a capability's Env", func(f *api.Forest) { f.Caps[1].Env = 1 }, false},
		{"a capability's slot", func(f *api.Forest) { f.Caps[5].Slot = 6 }, false},
		{"a capability's kind", func(f *api.Forest) { f.Caps[3].Kind = 2 }, false},
		{"a capability's rights", func(f *api.Forest) { f.Caps[1].Rights = 14 }, false},
		{"an out's capability's rights", func(f *api.Forest) { f.Caps[4].Rights = 3 }, false},
		{"a capability's From", func(f *api.Forest) { f.Caps[5].From = api.Place{Env: 0, Slot: 0} }, false},
		{"a capability's In", func(f *api.Forest) { f.Caps[5].In = false }, false},
		{"a capability's environment", func(f *api.Forest) { f.Caps[2].Obj = 1 }, false},
		{"a capability more", func(f *api.Forest) { f.Caps = append(f.Caps, held(6, 1, 0)) }, false},
		{"a capability fewer", func(f *api.Forest) { f.Caps = f.Caps[:5] }, false},
		{"a capability's class, both there", func(f *api.Forest) { f.Caps[5].Obj = 1 }, false},
		{"a word of a page", func(f *api.Forest) { f.Pages[1][31] = 9 }, false},
		{"a page more", func(f *api.Forest) { f.Pages = append(f.Pages, page(1)) }, false},
		{"a page fewer", func(f *api.Forest) { f.Pages = f.Pages[:1] }, false},
		{"an out's serial", func(f *api.Forest) { f.Outs[1].Serial = 9 }, false},
		{"an out's kind", func(f *api.Forest) { f.Outs[1].Kind = 2 }, false},
		{"an out more", func(f *api.Forest) { f.Outs = append(f.Outs, api.OutRec{Kind: 1, Serial: 1}) }, false},
		{"an out fewer", func(f *api.Forest) { f.Outs = f.Outs[:1] }, false},
		{"a class that isn't there", func(f *api.Forest) { f.Caps[0].Obj, f.Caps[5].Obj = 2, 2 }, false},
		{"a class below 0", func(f *api.Forest) { f.Caps[0].Obj, f.Caps[5].Obj = -1, -1 }, false},
		{"an out that isn't there", func(f *api.Forest) { f.Caps[3].Obj = 2 }, false},
		{"an out below 0", func(f *api.Forest) { f.Caps[3].Obj = math.MinInt }, false},
	} {
		a, b := rich(), rich()
		c.change(&b)
		if ties(t, c.what, a, b) != c.same || ties(t, c.what+", turned round", b, a) != c.same {
			t.Errorf("P15.1: two forests that differ in %s: Same is not %v", c.what, c.same)
		}
	}
}

// TestTieOfWhatMayNotBe: nothing is asked of the forests but what the rule says.
func TestTieOfWhatMayNotBe(t *testing.T) {
	odd := func(c api.CapRec) api.Forest {
		return api.Forest{Envs: []api.EnvRec{{Parent: 99, State: -7}}, Caps: []api.CapRec{c}, Maps: []api.MapRec{{Env: -3, V: math.MaxInt}}}
	}
	with := func(f api.Forest, pages []api.Page, outs ...api.OutRec) api.Forest {
		f.Pages, f.Outs = pages, outs
		return f
	}
	wild := api.CapRec{Env: -1, Slot: math.MinInt, Kind: 99, Rights: -5, In: true, Obj: math.MaxInt, From: api.Place{Env: 7, Slot: 7}}
	tame := wild
	tame.Obj = 0
	extent := api.CapRec{Kind: api.KindExtent, In: true, Obj: -4}
	class := api.CapRec{Kind: api.KindFrame, In: true}
	out := api.CapRec{Kind: 55}
	for _, c := range []struct {
		what string
		a, b api.Forest
		same bool
	}{
		{"an Obj of a kind that isn't", odd(wild), odd(wild), true},
		{"two such Objs", odd(wild), odd(tame), false},
		{"an extent inside", odd(extent), odd(extent), true},
		{"a class that nobody owns", with(odd(class), []api.Page{page(4)}), with(odd(class), []api.Page{page(4)}), true},
		{"an out of another kind than its capability", with(odd(out), nil, api.OutRec{Kind: -1}), with(odd(out), nil, api.OutRec{Kind: -1}), true},
		{"a class that isn't there", odd(class), odd(class), false},
		{"an out that isn't there", odd(out), odd(out), false},
	} {
		if ties(t, c.what, c.a, c.b) != c.same {
			t.Errorf("P15.1: Same of forests with %s is not %v", c.what, c.same)
		}
	}
}

// TestTwoOutsThatAreOne: outs are told apart by number, not by what they are.
func TestTwoOutsThatAreOne(t *testing.T) {
	f := plot([]api.CapRec{{Slot: 0, Kind: 2, From: none}, {Slot: 1, Kind: 2, Obj: 1, From: none}})
	f.Outs = []api.OutRec{{Kind: 2, Serial: 5}, {Kind: 2, Serial: 5}}
	g := cloned(f)
	g.Caps[0].Obj, g.Caps[1].Obj = 1, 0
	if _, outs, same := chain.Tie(f, g); !same || !slices.Equal(outs, []int{1, 0}) {
		t.Errorf("P15.1: %v, %v", outs, same)
	}
	g.Caps[1].Obj = 1
	if ties(t, "one out named for two", f, g) || ties(t, "two outs named for one", g, f) {
		t.Error("P15.1: two outs are tied to one")
	}
}

// TestTieOfRenumbered: the ties are told as they were laid.
func TestTieOfRenumbered(t *testing.T) {
	for seed := range 200 {
		d := dice(seed)
		f := grown(&d)
		if seed == 0 {
			f = greatest()
		}
		g := renumbered(&d, f)
		classes, outs, same := chain.Tie(f, g)
		if !same || len(classes) != len(f.Pages) || len(outs) != len(f.Outs) {
			t.Fatalf("P15.1: seed %d: %v, %v, %v", seed, classes, outs, same)
		}
		for i, c := range f.Caps {
			want := c.Obj
			switch {
			case !c.In:
				want = outs[c.Obj]
			case onClass(c):
				want = classes[c.Obj]
			}
			if g.Caps[i].Obj != want {
				t.Fatalf("P15.1: seed %d: capability %d names %d, tied is %d", seed, i, g.Caps[i].Obj, want)
			}
		}
		ties(t, "a renumbered forest", f, g)
		ties(t, "a renumbered forest, turned round", g, f)
	}
}

// TestEquivalence: among forests in which all is named and there.
func TestEquivalence(t *testing.T) {
	pairs := 0
	for seed := range 60 {
		d := dice(seed)
		f := grown(&d)
		g := cloned(f)
		for alike(f, g) || !wholeModel(g) {
			g = cloned(f)
			meddle(&d, &g)
		}
		all := []api.Forest{f, g}
		for range 3 {
			all = append(all, renumbered(&d, f), renumbered(&d, g))
		}
		same := map[[2]int]bool{}
		for i, a := range all {
			for j, b := range all {
				same[[2]int{i, j}] = ties(t, fmt.Sprintf("seed %d: %d and %d", seed, i, j), a, b)
			}
		}
		for i := range all {
			if !same[[2]int{i, i}] {
				t.Errorf("P15.6: seed %d: %d is not the same as itself", seed, i)
			}
			for j := range all {
				if same[[2]int{i, j}] != same[[2]int{j, i}] {
					t.Errorf("P15.6: seed %d: %d and %d: it matters which is named first", seed, i, j)
				}
				if i%2 == j%2 && !same[[2]int{i, j}] {
					t.Errorf("P15.6: seed %d: %d and %d are not the same", seed, i, j)
				}
				for k := range all {
					if same[[2]int{i, j}] && same[[2]int{j, k}] && !same[[2]int{i, k}] {
						t.Errorf("P15.6: seed %d: %d, %d and %d", seed, i, j, k)
					}
				}
				if same[[2]int{i, j}] {
					pairs++
				}
			}
		}
	}
	if pairs == 60*64 {
		t.Error("P15.6: all forests were the same")
	}
}

// wholeModel: every class and out is named, and every one that is named is there.
func wholeModel(f api.Forest) bool {
	classes, outs := make([]bool, len(f.Pages)), make([]bool, len(f.Outs))
	for _, c := range f.Caps {
		seen := outs
		switch {
		case onClass(c):
			seen = classes
		case c.In:
			continue
		}
		if c.Obj < 0 || c.Obj >= len(seen) {
			return false
		}
		seen[c.Obj] = true
	}
	return !slices.Contains(classes, false) && !slices.Contains(outs, false)
}
