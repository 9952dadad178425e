package audit_test

import (
	"fmt"
	"math"
	"slices"
	"testing"

	"amber/api"
	"amber/audit"
)

// States that no kernel has, held against the chapter's words; great ones; and whose memory is whose.

func (d *dice) odd() int {
	return d.of(-2, -1, 0, 1, 2, 3, 4, 5, 15, 16, 31, 32, 47, 48, 63, 64, api.MaxWord, api.MaxWord+1, math.MinInt, math.MaxInt)
}

// near: a number beside the one that was, or any.
func (d *dice) near(n int) int {
	return d.of(n-1, n+1, d.below(5)-1, d.odd())
}

// some: a place of a list, or a new one behind it.
func some[T any](d *dice, list *[]T) *T {
	if len(*list) == 0 || d.one(6) {
		var v T
		*list = append(*list, v)
		return &(*list)[len(*list)-1]
	}
	return &(*list)[d.below(len(*list))]
}

// disorder takes one out of a list, doubles it, or lays it elsewhere.
func disorder[T any](d *dice, list *[]T) {
	n := len(*list)
	if n == 0 {
		return
	}
	at := d.below(n)
	x := (*list)[at]
	if d.one(2) {
		*list = slices.Delete(slices.Clone(*list), at, at+1)
	}
	if d.one(2) {
		*list = slices.Insert(slices.Clone(*list), d.below(len(*list)+1), x)
	}
}

func (d *dice) turn(n *int) { *n = d.near(*n) }

// meddle changes one thing of a state, which must be the caller's own.
func meddle(d *dice, s *api.State) {
	switch d.below(12) {
	case 0, 1:
		e := &some(d, &s.Envs).Env
		d.turn([]*int{&e.Serial, &e.Parent, &e.State, &e.Code, &e.Bits}[d.below(5)])
	case 2:
		e := &some(d, &s.Envs).Env
		d.turn([]*int{&e.Quota.Frames, &e.Quota.Envs, &e.Quota.Extents, &e.Left.Frames, &e.Left.Envs, &e.Left.Extents}[d.below(6)])
	case 3:
		e := some(d, &s.Envs)
		d.turn(&e.Num)
		e.Env.Frozen = d.one(2)
		e.Env.Regs.R[d.below(8)], e.Env.Regs.PC = uint32(d.below(2)), uint32(d.below(2))
	case 4:
		c := some(d, &s.Caps)
		d.turn([]*int{&c.Held.Env, &c.Held.Slot, &c.From.Env, &c.From.Slot}[d.below(4)])
	case 5:
		c := &some(d, &s.Caps).Held.Cap
		d.turn([]*int{&c.Kind, &c.Obj, &c.Serial, &c.Rights}[d.below(4)])
	case 6:
		x, y := some(d, &s.Caps), placeOf(*some(d, &s.Caps))
		x.From = y
	case 7:
		m := some(d, &s.Maps)
		d.turn([]*int{&m.Env, &m.V, &m.Slot}[d.below(3)])
		m.Write = d.one(2)
	case 8:
		f := some(d, &s.Frames)
		d.turn([]*int{&f.Num, &f.Frame.Serial, &f.Frame.Holds, &f.Frame.Mark}[d.below(4)])
		f.Frame.Dirty = d.one(2)
		f.Page[d.below(32)] = uint32(d.below(2))
	case 9:
		x := some(d, &s.Extents)
		d.turn([]*int{&x.Num, &x.Serial, &x.Holds}[d.below(3)])
	case 10:
		d.turn(&s.Serial)
	default:
		[]func(){
			func() { disorder(d, &s.Envs) }, func() { disorder(d, &s.Caps) }, func() { disorder(d, &s.Maps) }, func() { disorder(d, &s.Frames) }, func() { disorder(d, &s.Extents) },
		}[d.below(5)]()
	}
}

// few: mostly small numbers, so that records meet.
func (d *dice) few() int {
	if d.one(12) {
		return d.odd()
	}
	return d.below(5) - 1
}

func (d *dice) quota() api.Quota {
	return api.Quota{Frames: d.few(), Envs: d.few(), Extents: d.few()}
}

// heap: a state without any order.
func (d *dice) heap() api.State {
	s := api.State{Serial: d.few()}
	for range d.below(6) {
		s.Envs = append(s.Envs, api.EnvState{Num: d.few(), Env: api.Env{Serial: d.few(), Parent: d.few(), State: d.few(), Code: d.few(), Bits: d.few(), Quota: d.quota(), Left: d.quota()}})
	}
	for range d.below(9) {
		h := api.Held{Env: d.few(), Slot: d.few(), Cap: api.Cap{Kind: d.few(), Obj: d.few(), Serial: d.few(), Rights: d.of(15, 7, d.few())}}
		s.Caps = append(s.Caps, api.CapState{Held: h, From: api.Place{Env: d.few(), Slot: d.few()}})
	}
	for range d.below(5) {
		s.Maps = append(s.Maps, api.MapRec{Env: d.few(), V: d.few(), Slot: d.few(), Write: d.one(2)})
	}
	for range d.below(5) {
		s.Frames = append(s.Frames, api.FrameState{Num: d.few(), Frame: api.Frame{Serial: d.few(), Holds: d.few(), Dirty: d.one(2), Mark: d.few()}})
	}
	for range d.below(4) {
		s.Extents = append(s.Extents, api.ExtState{Num: d.few(), Serial: d.few(), Holds: d.few()})
	}
	return s
}

// answersAs holds all that is told of one state against the model; which rules it breaks.
func answersAs(t *testing.T, what string, d *dice, s api.State) []api.Broken {
	t.Helper()
	before, want := cloned(s), checkModel(s)
	checks(t, what, s, want)
	nums := []int{-1, 0, 1, 2, 3, 4, d.odd()}
	for _, e := range s.Envs {
		nums = append(nums, e.Num, e.Env.Parent)
	}
	for _, n := range nums {
		q, code := paidModel(s, n)
		paid(t, what, s, n, q, code)
		rows, code := reachModel(s, n)
		reach(t, what, s, n, rows, code)
	}
	spots := []api.Place{{Env: -1, Slot: -1}, {Env: d.few(), Slot: d.few()}, {Env: d.odd(), Slot: d.odd()}}
	for _, c := range s.Caps {
		spots = append(spots, placeOf(c), c.From)
	}
	for _, p := range spots {
		list, code := belowModel(s, p.Env, p.Slot)
		below(t, what, s, p.Env, p.Slot, list, code)
	}
	untouched(t, what, s, before)
	return want
}

// often: how many states broke each rule.
func often(t *testing.T, call string, broke map[int]int, rules, least int) {
	t.Helper()
	for rule := 1; rule <= rules; rule++ {
		if broke[rule] < least {
			t.Errorf("P19.1: %s: rule %d was broken only %d times", call, rule, broke[rule])
		}
	}
}

func count(broke map[int]int, list []api.Broken) {
	for i, b := range list {
		if i == 0 || b.Rule != list[i-1].Rule {
			broke[b.Rule]++
		}
	}
}

// TestMeddledStates: a kernel's states, with one or a few things changed.
func TestMeddledStates(t *testing.T) {
	broke, sound := map[int]int{}, 0
	for seed := range 1000 {
		d := dice(seed)
		s := grown(t, &d, d.below(40)).State()
		for range d.below(4) {
			meddle(&d, &s)
		}
		told := answersAs(t, fmt.Sprintf("the meddled state %d", seed), &d, s)
		count(broke, told)
		if len(told) == 0 {
			sound++
		}
	}
	often(t, "Check", broke, 12, 20)
	if sound < 200 {
		t.Errorf("P19.1: only %d states broke no rule", sound)
	}
}

// TestHeaps: states made of nothing but numbers that meet.
func TestHeaps(t *testing.T) {
	broke := map[int]int{}
	for seed := range 6000 {
		d := dice(seed)
		count(broke, answersAs(t, fmt.Sprintf("the heap %d", seed), &d, d.heap()))
	}
	often(t, "Check", broke, 12, 1000)
}

// roots: mostly numbers that are there.
func (d *dice) roots(s api.State) []int {
	var l []int
	for range d.below(4) {
		if len(s.Envs) > 0 && !d.one(4) {
			l = append(l, s.Envs[d.below(len(s.Envs))].Num)
		} else {
			l = append(l, d.few())
		}
	}
	return l
}

// TestOddPairs: two states that have more or less to do with one another.
func TestOddPairs(t *testing.T) {
	broke, same := map[int]int{}, 0
	for seed := range 4000 {
		d := dice(seed)
		a, b := d.heap(), d.heap()
		if !d.one(4) {
			if d.one(2) {
				a = grown(t, &d, d.below(30)).State()
			}
			b = cloned(a)
			for range d.below(6) {
				meddle(&d, &b)
			}
		}
		what := fmt.Sprintf("the odd pair %d", seed)
		for range 3 {
			roots := d.roots(b)
			want := apartModel(a, b, roots)
			apart(t, what, a, b, roots, want)
			apart(t, what+", back", b, a, roots, apartModel(b, a, roots))
			count(broke, want)
			if len(want) == 0 {
				same++
			}
		}
	}
	often(t, "Apart", broke, 8, 150)
	if same < 1000 {
		t.Errorf("P19.1: only %d pairs were the same outside", same)
	}
}

// TestScriptedPairs: the states of a kernel ahead of some acts and behind them.
func TestScriptedPairs(t *testing.T) {
	broke := map[int]int{}
	for seed := range 300 {
		d := dice(seed)
		w := grown(t, &d, 20+d.below(40))
		for range 5 {
			a := w.State()
			for range 1 + d.below(8) {
				w.act(&d)
			}
			b := w.State()
			roots := d.roots(b)
			want := apartModel(a, b, roots)
			apart(t, fmt.Sprintf("the script %d", seed), a, b, roots, want)
			count(broke, want)
		}
	}
	often(t, "Apart", broke, 8, 8)
}

const many = 40000

// long: a state with so many records that who looks at all of them for each of them would not come to an end: a chain of environments, and one of capabilities on the last of them, whose first has the given From.
func long(from api.Place) api.State {
	s := api.State{Serial: many + 1}
	s.Envs = make([]api.EnvState, many)
	s.Caps = make([]api.CapState, many)
	s.Maps = make([]api.MapRec, many)
	s.Frames = make([]api.FrameState, many)
	s.Extents = make([]api.ExtState, many)
	for i := range many {
		s.Envs[i] = api.EnvState{Num: i, Env: api.Env{Serial: i + 1, Parent: i - 1}}
		s.Caps[i].Held = api.Held{Env: i, Cap: api.Cap{Kind: api.KindEnv, Obj: many - 1, Serial: many, Rights: 15}}
		s.Caps[i].From = api.Place{Env: i - 1}
		s.Maps[i].Env, s.Frames[i].Num, s.Extents[i].Num = i, i, i
	}
	s.Caps[0].From = from
	return s
}

// TestGreatStates: what is told of them, and that it ends.
func TestGreatStates(t *testing.T) {
	line, ring := long(api.Place{Env: -1, Slot: -1}), long(api.Place{Env: many - 1})
	for _, c := range []struct {
		what   string
		s      api.State
		counts [13]int
	}{
		{"a long line", line, [13]int{1: many - 16, 3: 2 * many, 8: many, 9: 2 * many, 10: many, 11: many - 1, 12: 1}},
		{"a long ring", ring, [13]int{1: many - 16, 3: 2 * many, 7: many, 8: many, 9: 2 * many, 10: many, 11: many - 1, 12: 1}},
	} {
		var told [13]int
		for _, b := range audit.Check(c.s) {
			told[b.Rule]++
		}
		if told != c.counts {
			t.Errorf("P19.1: %s: Check tells %v, want %v", c.what, told, c.counts)
		}
		paid(t, c.what, c.s, 7, api.Quota{Envs: 1}, api.OK)
		reach(t, c.what, c.s, 0, []api.Cap{{Kind: api.KindEnv, Obj: many - 1, Serial: many, Rights: 15}}, api.OK)
		if l, code := audit.Below(c.s, 0, 0); len(l) != many-1 || code != api.OK || l[many-2] != (api.Place{Env: many - 1}) {
			t.Errorf("P19.1: %s: Below tells %d places, %d", c.what, len(l), code)
		}
		apart(t, c.what, c.s, c.s, nil, nil)
		apart(t, c.what, c.s, c.s, []int{0}, nil)
	}
	apart(t, "both", line, ring, []int{many / 2}, nil)
	if told := audit.Apart(line, api.State{}, nil); len(told) != many {
		t.Errorf("P19.1: Apart of a great state and none tells %d", len(told))
	}
}

// scribble fills a list, spare room included, with other things.
func scribble[T any](list []T, other T) {
	list = list[:cap(list)]
	for i := range list {
		list[i] = other
	}
}

// TestNewMemory: what is answered shares nothing with what was handed in, or with another answer.
func TestNewMemory(t *testing.T) {
	for seed := range 200 {
		d := dice(seed)
		w := grown(t, &d, 40)
		a := w.State()
		w.act(&d)
		b := w.State()
		meddle(&d, &b)
		x, y := cloned(a), cloned(b)
		roots := slices.Grow([]int{1, 2, 3}, 8)
		room := roots[:8]
		copy(room[3:], []int{7, 7, 7, 7, 7})
		for range 2 {
			scribble(audit.Check(b), api.Broken{Rule: 99})
			scribble(audit.Apart(a, b, roots), api.Broken{Rule: 99})
			for _, c := range b.Caps {
				list, _ := audit.Below(b, c.Held.Env, c.Held.Slot)
				scribble(list, api.Place{Env: 99})
			}
			for _, e := range b.Envs {
				rows, _ := audit.Reach(b, e.Num)
				scribble(rows, api.Cap{Kind: 99})
			}
			untouched(t, fmt.Sprint("seed ", seed), a, x)
			untouched(t, fmt.Sprint("seed ", seed), b, y)
			if !slices.Equal(room, []int{1, 2, 3, 7, 7, 7, 7, 7}) {
				t.Fatalf("P19.1: seed %d: roots, with their spare room, became %v", seed, room)
			}
			answersAs(t, fmt.Sprint("seed ", seed), &d, b)
		}
	}
}
