package rewind_test

import (
	"fmt"
	"reflect"
	"slices"
	"testing"

	"amber/api"
	"amber/audit"
	"amber/chain"
	"amber/rewind"
	"amber/walk"
)

// Trips of villages that nobody else touches: back and forth, the beginning, what is found, and what else changes.

// point: a tree as it was behind some legs.
type point struct {
	forest api.Forest
	state  api.State
	tree   []int
}

// journey: a village's trip, and what was seen on it: a point behind each leg and at the beginning, and what each leg told.
type journey struct {
	village
	x      *rewind.Trip
	points []point
	told   [][]api.Event
	closed bool
	gone   int // environments that ended in a Go
}

func (j *journey) point(t *testing.T) point {
	t.Helper()
	slot := j.x.Slot()
	return point{forest(t, j.k, j.env, slot), j.k.State(), treeAt(t, j.k, j.env, slot)}
}

func (j *journey) behind() int {
	n, _ := j.x.At()
	return n
}

func setOut(t *testing.T, d *dice, closed bool) *journey {
	t.Helper()
	j := &journey{village: found(t, d, closed), closed: closed}
	j.lookOn(d)
	j.x = j.begun(t, j.env, j.slot)
	j.points = []point{j.point(t)}
	return j
}

// lookOn gives the caller and what is above it capabilities on the tree's environments, where it isn't closed: they go with the tree.
func (j *journey) lookOn(d *dice) {
	for range 4 {
		if !j.closed {
			j.k.Call(d.of(0, j.env), request(api.NatSelf, -1, 1+d.below(4), 0, -1, d.of(0, 1, 9)))
		}
	}
}

// isAt holds the present tree against the one that was there, and the trip against where it must stand.
func (j *journey) isAt(t *testing.T, what string, behind int) {
	t.Helper()
	if n, all := j.x.At(); n != behind || all != len(j.told) {
		t.Fatalf("P25.1: %s: At %d, %d, want %d, %d", what, n, all, behind, len(j.told))
	}
	if f := forest(t, j.k, j.env, j.x.Slot()); !same(f, j.points[behind].forest) {
		t.Fatalf("P25.2: %s: the tree is %+v, was %+v", what, f, j.points[behind].forest)
	}
}

// beginsAs: P25.3.
func (j *journey) beginsAs(t *testing.T, what string) {
	t.Helper()
	raws, _ := j.s.Chain()
	fold, code := chain.Load(raws)
	f, _, _ := walk.Read(j.k, j.env, j.x.Slot())
	if code != api.OK || !same(f, fold.Forest) {
		t.Fatalf("P25.3: %s: the beginning is %+v, and the store's chain tells %+v, %d", what, f, fold.Forest, code)
	}
}

// run does a new run.
func (j *journey) run(t *testing.T, d *dice, what string) {
	t.Helper()
	before, a := j.behind(), j.k.State()
	past, tree := j.logTill(t, before), treeAt(t, j.k, j.env, j.x.Slot())
	j.told = append(j.told[:before], ran(t, j.x, d.picks(1+d.below(5)), d.answers()))
	j.points = append(j.points[:before+1], j.point(t))
	j.isAt(t, what, before+1)
	if log := j.x.Log(); len(log) <= len(past) || string(log[:len(past)]) != past {
		t.Fatalf("P25.7: %s: the log is % x, and was % x", what, log, past)
	}
	for _, b := range audit.Apart(a, j.k.State(), tree[:1]) {
		if b.Rule == 1 {
			j.gone++
		}
		below := b.Rule == 1 && slices.Contains(tree[1:], b.A)
		if j.isClosed(a, tree) && !below {
			t.Fatalf("P25.5: %s: Go has changed %+v", what, b)
		}
	}
}

// isClosed: nobody outside holds a capability on a thing that the tree reaches, or on an environment properly below its root.
func (j *journey) isClosed(s api.State, tree []int) bool {
	reached, _ := audit.Reach(s, tree[0])
	for _, c := range s.Caps {
		on := c.Held.Cap
		if slices.Contains(tree, c.Held.Env) {
			continue
		}
		for _, r := range reached {
			if r.Kind == on.Kind && r.Obj == on.Obj {
				return false
			}
		}
		if on.Kind == api.KindEnv && slices.Contains(tree[1:], on.Obj) {
			return false
		}
	}
	return true
}

// logTill: the bytes of the first legs.
func (j *journey) logTill(t *testing.T, n int) string {
	t.Helper()
	log, at := j.x.Log(), 0
	for range n {
		picks, answers := int(log[at+4])+int(log[at+5])<<8, int(log[at+8])
		at += 24 + 16*picks + 4*answers
	}
	return string(log[:at])
}

// move goes so many legs, back where that is below 0, and holds what has changed against P25.5.
func (j *journey) move(t *testing.T, what string, n int) {
	t.Helper()
	from, slot, a := j.behind(), j.x.Slot(), j.k.State()
	old := treeAt(t, j.k, j.env, slot)
	if n < 0 {
		backs(t, j.x, -n)
	} else {
		forth(t, j.x, n, slices.Concat(j.told[from:from+n]...)...)
	}
	j.isAt(t, what, from+n)
	if from+n == 0 {
		j.beginsAs(t, what)
	}
	now := treeAt(t, j.k, j.env, j.x.Slot())
	if got, want := audit.Apart(a, j.k.State(), now[:1]), moved(a, old, j.env, j.x.Slot()); !slices.Equal(got, want) {
		t.Fatalf("P25.5: %s: %d legs: changed is %v, want %v", what, n, got, want)
	}
	if _, there := capAt(j.k, j.env, slot); there || look(t, j.k, now[0]).Parent != j.env {
		t.Fatalf("P25.5: %s: the old slot is not free, or the new tree is not below the caller", what)
	}
}

// moved: what changes outside the new tree: the old one's environments are gone, and all capabilities on them, and the caller has a new one.
func moved(a api.State, old []int, env, slot int) []api.Broken {
	var want []api.Broken
	for _, n := range slices.Sorted(slices.Values(old)) {
		want = append(want, api.Broken{Rule: 1, A: n, B: -1})
	}
	for _, c := range a.Caps {
		outside := !slices.Contains(old, c.Held.Env)
		if outside && c.Held.Cap.Kind == api.KindEnv && slices.Contains(old, c.Held.Cap.Obj) {
			want = append(want, api.Broken{Rule: 2, A: c.Held.Env, B: c.Held.Slot})
		}
	}
	return append(want, api.Broken{Rule: 6, A: env, B: slot})
}

// shown: whether a watch holds of a tree, by what State told of it.
func (p point) shown(w api.Watch) bool {
	if w.K < 0 || w.K >= len(p.tree) {
		return false
	}
	env := p.tree[w.K]
	for _, e := range p.state.Envs {
		switch x := e.Env; {
		case e.Num != env:
		case w.On == 1:
			return x.Regs.PC == w.Value
		case w.On == 2:
			return x.Regs.R[w.Reg] == w.Value
		case w.On == 4:
			return x.State == int(w.Value)
		}
	}
	word, there := p.word(env, w.Addr)
	return w.On == 3 && there && word == w.Value
}

func (p point) word(env int, addr uint32) (uint32, bool) {
	for _, e := range p.state.Maps {
		if e.Env != env || uint32(e.V) != addr/api.PageWords {
			continue
		}
		c := slices.IndexFunc(p.state.Caps, func(c api.CapState) bool { return c.Held.Env == env && c.Held.Slot == e.Slot })
		f := slices.IndexFunc(p.state.Frames, func(f api.FrameState) bool { return f.Num == p.state.Caps[c].Held.Cap.Obj })
		return p.state.Frames[f].Page[addr%api.PageWords], true
	}
	return 0, false
}

// watch: of what was there at some point, or nearly; mostly of what was not there at the beginning.
func (j *journey) watch(d *dice) api.Watch {
	for {
		if w := j.sight(d); !j.points[0].shown(w) || d.one(4) {
			w.Value += uint32(d.of(0, 0, 0, 0, 1))
			w.K += d.of(0, 0, 0, 0, 0, 0, 1, -1)
			return w
		}
	}
}

// sight: of what was there at some point.
func (j *journey) sight(d *dice) api.Watch {
	p := j.points[d.below(len(j.points))]
	w := api.Watch{On: 1 + d.below(4), K: d.below(len(p.tree)), Reg: d.below(8), Addr: uint32(d.below(pages+1)*api.PageWords + d.below(32))}
	x := p.forest.Envs[w.K]
	switch w.On {
	case 1:
		w.Value = x.Regs.PC
	case 2:
		w.Value = x.Regs.R[w.Reg]
	case 3:
		w.Value, _ = p.word(p.tree[w.K], w.Addr)
	case 4:
		w.Value = uint32(x.State)
	}
	return w
}

// search looks for something, and holds the answer against the points; what it told.
func (j *journey) search(t *testing.T, d *dice) int {
	t.Helper()
	w := j.watch(d)
	want := slices.IndexFunc(j.points, func(p point) bool { return p.shown(w) })
	j.finds(t, j.x, w, want)
	return want
}

// TestBackAndForth: P25.2 to P25.7, over villages of all calls.
func TestBackAndForth(t *testing.T) {
	events, closed, gone, found := 0, 0, 0, map[int]int{}
	for seed := range 40 {
		d := dice(seed)
		j := setOut(t, &d, d.one(2))
		for n := range 22 {
			what := fmt.Sprintf("seed %d, act %d", seed, n)
			flag := d.one(5)
			was := j.turnFlag(t, &d, flag)
			switch behind := j.behind(); d.below(7) {
			case 0, 1, 2:
				tree := treeAt(t, j.k, j.env, j.x.Slot())
				if j.isClosed(j.k.State(), tree) {
					closed++
				}
				j.run(t, &d, what)
				events += len(j.told[behind])
			case 3, 4:
				j.move(t, what, -d.of(0, 1, d.below(behind+1), behind)%(behind+1))
			case 5:
				j.move(t, what, d.of(0, d.below(len(j.told)-behind+1), len(j.told)-behind))
			default:
				found[min(j.search(t, &d), 3)]++
			}
			if look(t, j.k, rootAt(t, j.k, j.env, j.x.Slot())).Frozen != was {
				t.Fatalf("P25.6: %s: the root's flag was %v", what, was)
			}
			if broken := audit.Check(j.k.State()); len(broken) > 0 {
				t.Fatalf("P25.1: %s: the kernel's rules are broken: %v", what, broken)
			}
		}
		gone += j.gone
	}
	if events < 2500 || closed < 40 || gone < 5 || found[-1] < 10 || found[0] < 10 || found[1] < 5 || found[2] < 5 || found[3] < 5 {
		t.Errorf("only %d events were told, %d closed trees ran, %d lost somebody, found was %v", events, closed, gone, found)
	}
}

// turnFlag turns the root's flag, now and then; what it is.
func (j *journey) turnFlag(t *testing.T, d *dice, turn bool) bool {
	t.Helper()
	slot := j.x.Slot()
	if turn {
		do(t, j.k, j.env, api.NatFreeze, slot, 0, d.below(2))
	}
	return look(t, j.k, rootAt(t, j.k, j.env, slot)).Frozen
}

// TestTheFirstPlace: what Find tells is what going back to the beginning and forth leg by leg shows.
func TestTheFirstPlace(t *testing.T) {
	for seed := range 10 {
		d := dice(seed + 500)
		j := setOut(t, &d, false)
		for range 6 {
			j.run(t, &d, "P25.4")
		}
		j.move(t, "P25.4", -d.below(7))
		var watches []api.Watch
		var first []int
		for range 12 {
			w := j.watch(&d)
			n, code := j.x.Find(w)
			if code != api.OK {
				t.Fatalf("P25.4: Find(%+v) = %d, %d", w, n, code)
			}
			watches, first = append(watches, w), append(first, n)
		}
		j.move(t, "P25.4", -j.behind())
		seen := slices.Repeat([]int{-1}, len(watches))
		for at := range 7 {
			for i, w := range watches {
				if seen[i] < 0 && j.point(t).shown(w) {
					seen[i] = at
				}
			}
			if at < 6 {
				j.move(t, "P25.4", 1)
			}
		}
		if !reflect.DeepEqual(first, seen) {
			t.Errorf("P25.4: seed %d: of %+v Find told %v, the way shows %v", seed, watches, first, seen)
		}
	}
}
