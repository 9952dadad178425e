package run_test

import (
	"fmt"
	"slices"
	"testing"

	"amber/api"
	"amber/run"
)

// took: how many answers a run's events say were taken.
func took(events []api.Event) int {
	n := 0
	for _, e := range events {
		if e.Kind == api.EvSys && e.Call == api.CallAsk && e.Code == api.OK {
			n++
		}
	}
	return n
}

// TestARunIsItsRuns: picks run at once, or in two runs, the second with the answers that the first left.
func TestARunIsItsRuns(t *testing.T) {
	twins(t, "P12.2", 60, 6, func(where string, d *dice, x, y *village) {
		p, answers := d.picks(d.below(14)), d.answers()
		cut := d.below(len(p) + 1)
		whole, _ := run.Run(x.k, x.root, p, answers)
		first, _ := run.Run(y.k, y.root, p[:cut], answers)
		second, _ := run.Run(y.k, y.root, p[cut:], answers[took(first):])
		if !slices.Equal(whole, append(first, second...)) {
			t.Fatalf("%s: %v, cut at %d, %v: %+v, want %+v, then %+v", where, p, cut, answers, whole, first, second)
		}
	})
}

// TestAPickIsItsSteps: a pick of n steps, and calls of Step till one ends it.
func TestAPickIsItsSteps(t *testing.T) {
	twins(t, "P12.2", 60, 8, func(where string, d *dice, x, y *village) {
		p, answers := api.Pick{K: d.below(x.size()), Steps: 1 + d.below(60)}, d.answers()
		whole, _ := run.Run(x.k, x.root, []api.Pick{p}, answers)
		if events := stepped(y, p, answers); !slices.Equal(whole, events) {
			t.Fatalf("%s: %v, %v: %+v, want %+v", where, p, answers, whole, events)
		}
	})
}

// stepped does a pick by single steps.
func stepped(v *village, p api.Pick, answers []uint32) []api.Event {
	env := v.at(p.K)
	if !v.k.Runs(env) {
		return []api.Event{{Kind: api.EvNone, K: p.K}}
	}
	var out []api.Event
	for n := 1; n <= p.Steps; n++ {
		e, taken := run.Step(v.k, env, answers)
		answers = answers[taken:]
		if e.Kind != api.EvEnd {
			e.K, e.Steps = p.K, n
			out = append(out, e)
		}
		if e.Kind == api.EvSys && e.Call == api.CallYield || !v.k.Runs(env) {
			return out
		}
	}
	return append(out, api.Event{Kind: api.EvEnd, K: p.K, Steps: p.Steps})
}

// TestTwoRunsTooLongForOne: each of the two is within the limit, both together are not.
func TestTwoRunsTooLongForOne(t *testing.T) {
	k := house(t, "sys 24\naddi r7, 1\njmp -3")
	p, q := picks(0, 4096), picks(0, 3)
	if got, code := run.Run(k, 1, append(p, q...), []uint32{1}); code != api.ErrArg || got != nil {
		t.Errorf("P12.2: a run of 4099 steps: %d events, %d", len(got), code)
	}
	first, _ := run.Run(k, 1, p, []uint32{1, 2})
	runs(t, "P12.2", k, 1, q, nil, sys(3, 24, api.ErrState, a()), end(3))
	if x := look(t, k, 1); took(first) != 2 || len(first) != 1366+1 || x.Regs.R[7] != 1366 {
		t.Errorf("P12.2: %d answers were taken, %d events, r7 is %d", took(first), len(first), x.Regs.R[7])
	}
}

// TestNothingRunsThatShouldNot: behind whatever script, those that don't run do nothing.
func TestNothingRunsThatShouldNot(t *testing.T) {
	still := 0
	for seed := range 30 {
		v := found(t, seed, quiet)
		d := dice(seed + 5)
		for n := range 10 {
			v.stir(t, &d)
			if d.below(3) == 0 {
				v.native(api.NatFreeze, -1, 0, 1)
			}
			before := v.k.State()
			where := fmt.Sprintf("P12.3: seed %d, run %d", seed, n)
			for place := range v.size() {
				if _, _, goes := modelEnv(v.k, v.at(place)); goes {
					continue
				}
				still++
				steps(t, where, v.k, v.at(place), []uint32{1}, none(), 0)
				runs(t, where, v.k, v.root, picks(place, 5), []uint32{1}, of(none(), place, 0))
				unchanged(t, where, v.k, before)
			}
			p := d.picks(9)
			events, _ := run.Run(v.k, v.root, p, nil)
			if look(t, v.k, v.root).Frozen {
				for i, e := range events {
					if len(events) != len(p) || e != (api.Event{Kind: api.EvNone, K: p[i].K}) {
						t.Fatalf("%s: below a frozen root: %+v", where, events)
					}
				}
				unchanged(t, where, v.k, before)
			}
			v.native(api.NatFreeze, -1, 0, 0)
		}
	}
	if still < 300 {
		t.Errorf("only %d environments stood still", still)
	}
}

// neighbours: others that make, hold and end things beside the village.
func neighbours(t *testing.T, seed int) func(v *village) {
	d := dice(seed)
	return func(v *village) {
		t.Helper()
		for range d.below(6) {
			var r api.Request
			switch d.below(8) {
			case 0, 1, 2:
				r = api.Request{Call: api.CallAlloc}
			case 3:
				r = api.Request{Call: api.CallSpawn, A: [6]int{1, 0, 1}}
			case 4:
				r = api.Request{Call: api.NatClaim, A: [6]int{d.of(-1, d.below(9))}}
			case 5:
				r = api.Request{Call: api.NatClean, A: [6]int{-1, 0, d.below(9)}}
			default:
				r = api.Request{Call: d.of(api.CallDrop, api.CallKill), A: [6]int{d.below(9)}}
			}
			if slot := r.A[0]; v.root != 0 && (r.Call == api.CallDrop || r.Call == api.CallKill) && v.k.SerialOf(0, slot) == look(t, v.k, v.root).Serial {
				continue // the village itself
			}
			v.k.Call(0, r)
		}
	}
}

// TestAGuestSeesNoNumbers: the same village in two kernels, in one of them among neighbours: the same events but for serials, and the same tree but for numbers.
func TestAGuestSeesNoNumbers(t *testing.T) {
	moved, done := 0, 0
	for seed := range 80 {
		others := neighbours(t, seed+6)
		x, y := found(t, seed, quiet), found(t, seed, others)
		d := dice(seed + 7)
		for n := range 8 {
			e := d
			x.stir(t, &d)
			y.stir(t, &e)
			others(y)
			p, answers := d.picks(d.below(14)), d.answers()
			got, code := run.Run(x.k, x.root, p, answers)
			want, _ := run.Run(y.k, y.root, p, answers)
			where := fmt.Sprintf("P12.4: seed %d, run %d: Run(%v, %v)", seed, n, p, answers)
			for i := range min(len(got), len(want)) {
				if got[i].Serial != want[i].Serial {
					moved++
				}
				if got[i].Kind == api.EvSys && got[i].Code == api.OK {
					done++
				}
				if (got[i].Serial == 0) != (want[i].Serial == 0) {
					t.Fatalf("%s: %+v, but %+v", where, got[i], want[i])
				}
				got[i].Serial, want[i].Serial = 0, 0
			}
			if code != api.OK || !slices.Equal(got, want) {
				t.Fatalf("%s = %+v, %d, but among others %+v", where, got, code, want)
			}
			if a, b := picture(x.k, x.root), picture(y.k, y.root); a != b {
				t.Fatalf("%s: the tree is\n%sbut among others\n%s", where, a, b)
			}
		}
	}
	if moved < 500 || done < 1000 {
		t.Errorf("only %d serials were others, %d calls were done", moved, done)
	}
}

// around: environments beside the village, with things of their own and of the village; some of them the village can call on.
func around(t *testing.T, v *village, d *dice) {
	t.Helper()
	for range 3 {
		slot := do(t, v.k, 0, api.CallSpawn, 5, 0, 1)
		all, _ := v.k.Tree(0)
		env := all[len(all)-1]
		for n := range 2 {
			do(t, v.k, env, api.CallAlloc)
			do(t, v.k, env, api.CallMap, n, n, 1)
		}
		do(t, v.k, 0, api.CallStart, slot, 0)
	}
	do(t, v.k, 0, api.CallAlloc)
	all, _ := v.k.Tree(0)
	for range 30 {
		r := api.Request{Call: api.NatCopy, A: [6]int{-1, d.below(len(all)), d.below(8), d.below(len(all)), -1, d.of(15, 15, 7, 3)}}
		if d.below(5) == 0 {
			r = api.Request{Call: api.NatMapIn, A: [6]int{-1, d.below(len(all)), 3 + d.below(6), d.below(6), d.below(2)}}
		}
		if d.below(9) == 0 {
			r = api.Request{Call: api.NatSelf, A: [6]int{-1, d.below(len(all)), d.below(len(all)), -1, d.of(15, 3)}}
		}
		v.k.Call(0, r)
	}
}

// TestWhatIsOutsideStays: of what no capability in the tree leads to.
func TestWhatIsOutsideStays(t *testing.T) {
	left := map[string]int{}
	for seed := range 80 {
		v := found(t, seed, quiet)
		d := dice(seed + 8)
		around(t, v, &d)
		for n := range 10 {
			v.stir(t, &d)
			before := v.k.State()
			tree, _ := v.k.Tree(v.root)
			if _, code := run.Run(v.k, v.root, d.picks(10), d.answers()); code != api.OK {
				t.Fatalf("P12.5: seed %d: %d", seed, code)
			}
			untouched(t, fmt.Sprintf("P12.5: seed %d, run %d", seed, n), tree, before, v.k.State(), left)
		}
	}
	for _, what := range []string{"environments", "frames", "capabilities", "gone", "parents"} {
		if left[what] < 5 {
			t.Errorf("only %d %s were looked at", left[what], what)
		}
	}
}

// TestWhatGoesOutside: what a guest may do to a list that it can't reach: it revokes what was derived from its own, drops what stands in between, and ends a child.
func TestWhatGoesOutside(t *testing.T) {
	k := house(t, "")
	child, _ := lodger(t, k, 1, "jmp -1")
	shared, other := do(t, k, 1, api.CallAlloc), do(t, k, 1, api.CallAlloc)
	between := do(t, k, 1, api.CallDerive, other, 7)
	do(t, k, 0, api.CallSpawn, 5, 0, 0) // environment 3, the last in preorder
	for at, from := range []int{shared, other, between} {
		do(t, k, 0, api.NatCopy, -1, 1, from, 3, at, 3)
		do(t, k, 3, api.CallMap, 5+at, at, 1)
	}
	do(t, k, 0, api.NatSelf, -1, 2, 3, 3, api.AllRights)
	fill(t, k, 0, 1, fmt.Sprintf("li r1, %d\nsys 8\nli r1, %d\nsys 7\nli r1, %d\nsys 13\nsys 1", shared, between, child))
	before, serial := k.State(), k.SerialOf(1, other)
	events, _ := run.Run(k, 1, picks(0, 99), nil)
	if len(events) != 4 || slices.ContainsFunc(events, func(e api.Event) bool { return e.Code != api.OK }) {
		t.Fatalf("P12.5: %+v", events)
	}
	looked := map[string]int{}
	untouched(t, "P12.5: a guest revokes, drops, kills", []int{1, 2}, before, k.State(), looked)
	var list []api.CapState
	for _, c := range k.State().Caps {
		if c.Held.Env == 3 {
			list = append(list, c)
		}
	}
	c, from := api.Cap{Kind: api.KindFrame, Obj: 3, Serial: serial, Rights: 3}, api.Place{Env: 1, Slot: other}
	want := []api.CapState{{Held: api.Held{Env: 3, Slot: 1, Cap: c}, From: from}, {Held: api.Held{Env: 3, Slot: 2, Cap: c}, From: from}}
	if !slices.Equal(list, want) || looked["gone"] != 2 || looked["parents"] != 1 || look(t, k, 3).Left.Frames != 3 {
		t.Errorf("P12.5: the list is %+v, want %+v; %v; %+v", list, want, looked, look(t, k, 3))
	}
}

// reached: whether a capability on a thing lies in the tree.
func reached(s api.State, tree []int, kind, num int) bool {
	return slices.ContainsFunc(s.Caps, func(c api.CapState) bool {
		return slices.Contains(tree, c.Held.Env) && c.Held.Cap.Kind == kind && c.Held.Cap.Obj == num
	})
}

// untouched holds the states ahead of and behind a run against each other; it counts what it looked at.
func untouched(t *testing.T, where string, tree []int, before, now api.State, looked map[string]int) {
	t.Helper()
	for _, f := range before.Frames {
		if reached(before, tree, api.KindFrame, f.Num) {
			continue
		}
		looked["frames"]++
		if !slices.Contains(now.Frames, f) {
			t.Fatalf("%s: frame %d", where, f.Num)
		}
	}
	for _, x := range before.Envs {
		if slices.Contains(tree, x.Num) || reached(before, tree, api.KindEnv, x.Num) {
			continue
		}
		looked["environments"]++
		untouchedEnv(t, where, x, before, now)
		untouchedCaps(t, where, x.Num, tree, before, now, looked)
	}
}

// untouchedEnv: of an environment's record and pages; what it has left grows by what went, its pages go with their slots.
func untouchedEnv(t *testing.T, where string, x api.EnvState, before, now api.State) {
	t.Helper()
	want := x.Env
	for _, c := range before.Caps {
		if c.Held.Env == x.Num && !holds(now, c.Held) {
			want.Left.Frames += back(c.Held.Cap, api.KindFrame)
			want.Left.Extents += back(c.Held.Cap, api.KindExtent)
		}
	}
	if !slices.Contains(now.Envs, api.EnvState{Num: x.Num, Env: want}) {
		t.Fatalf("%s: environment %d", where, x.Num)
	}
	var pages []api.MapRec
	for _, m := range before.Maps {
		if m.Env == x.Num && slices.ContainsFunc(now.Caps, func(c api.CapState) bool { return c.Held.Env == m.Env && c.Held.Slot == m.Slot }) {
			pages = append(pages, m)
		}
	}
	var is []api.MapRec
	for _, m := range now.Maps {
		if m.Env == x.Num {
			is = append(is, m)
		}
	}
	if !slices.Equal(pages, is) {
		t.Fatalf("%s: pages of environment %d: %v, want %v", where, x.Num, is, pages)
	}
}

func back(c api.Cap, kind int) int {
	if c.Kind == kind {
		return 1
	}
	return 0
}

func holds(s api.State, h api.Held) bool {
	return slices.ContainsFunc(s.Caps, func(c api.CapState) bool { return c.Held == h })
}

// untouchedCaps: of a list: none comes, only those on things of the tree go, and only they get another parent.
func untouchedCaps(t *testing.T, where string, env int, tree []int, before, now api.State, looked map[string]int) {
	t.Helper()
	for _, c := range now.Caps {
		if c.Held.Env == env && !holds(before, c.Held) {
			t.Fatalf("%s: environment %d got %+v", where, env, c)
		}
	}
	for _, c := range before.Caps {
		if c.Held.Env != env {
			continue
		}
		looked["capabilities"]++
		ours := reached(before, tree, c.Held.Cap.Kind, c.Held.Cap.Obj) || slices.Contains(tree, c.Held.Cap.Obj) && c.Held.Cap.Kind == api.KindEnv
		if !holds(now, c.Held) {
			looked["gone"]++
			if !ours {
				t.Fatalf("%s: environment %d lost %+v", where, env, c)
			}
		} else if !slices.Contains(now.Caps, c) {
			looked["parents"]++
			if !ours {
				t.Fatalf("%s: %+v has another parent", where, c)
			}
		}
	}
}
