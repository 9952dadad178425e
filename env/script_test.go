package env_test

import (
	"fmt"
	"math"
	"slices"
	"testing"

	"amber/api"
	"amber/env"
)

// dice: numbers by a fixed rule, so that each run of the test is the same.
type dice uint64

func (d *dice) below(n int) int {
	*d = *d*6364136223846793005 + 1442695040888963407
	return int(uint64(*d)>>33) % n
}

func (d *dice) of(l ...int) int { return l[d.below(len(l))] }

// number: mostly a low one, so that trees grow deep.
func (d *dice) number() int {
	if d.below(20) == 0 {
		return d.of(-1, 16, math.MinInt, math.MaxInt)
	}
	return d.below(d.of(4, 16))
}

func (d *dice) quota(most int) api.Quota {
	var p parts
	for i := range p {
		p[i] = d.below(most)
		if d.below(40) == 0 {
			p[i] = d.of(-1, 1<<62-1, 1<<62, math.MinInt, math.MaxInt)
		}
	}
	return p.quota()
}

func (d *dice) word() int {
	if d.below(8) == 0 {
		return d.of(-1, 1<<32-1, 1<<32, 1<<31, math.MinInt, math.MaxInt)
	}
	return d.below(8)
}

func (d *dice) state() int {
	if d.below(12) == 0 {
		return d.of(-1, 5, math.MinInt, math.MaxInt)
	}
	return d.of(0, 1, 1, 1, 2, 2, 3, 4)
}

// serial: mostly the next one.
func (d *dice) serial(last int) int {
	if d.below(10) == 0 {
		return d.of(-1, 0, 1, last-1, last, 1<<62, math.MinInt, math.MaxInt)
	}
	return last + 1 + d.below(3)
}

func (d *dice) regs() api.Regs {
	r := api.Regs{PC: uint32(d.below(512))}
	for i := range r.R {
		r.R[i] = uint32(d.below(9))
	}
	return r
}

// act: one call, told and to be done on any table.
type act struct {
	name string
	do   func(t table) string
}

// grows: a call by which the tree or what is paid in it changes.
func (d *dice) grows(last int) act {
	e, serial, q := d.number(), d.serial(last), d.quota(d.of(1, 3, 8))
	switch d.below(12) {
	case 0:
		return act{fmt.Sprint("Destroy ", e), func(t table) string { return fmt.Sprint(t.Destroy(e)) }}
	case 1, 2, 3:
		return act{fmt.Sprint("Pay ", e, q), func(t table) string { return fmt.Sprint(t.Pay(e, q)) }}
	case 4, 5:
		return act{fmt.Sprint("Refund ", e, q), func(t table) string { return fmt.Sprint(t.Refund(e, q)) }}
	default:
		return act{fmt.Sprint("Create ", e, serial, q), func(t table) string { return fmt.Sprint(t.Create(e, serial, q)) }}
	}
}

// sets: a call that changes one environment alone.
func (d *dice) sets() act {
	e, n, state, regs, on := d.number(), d.word(), d.state(), d.regs(), d.below(2) == 0
	switch d.below(7) {
	case 0:
		return act{fmt.Sprint("SetRegs ", e, regs), func(t table) string { return fmt.Sprint(t.SetRegs(e, regs)) }}
	case 1:
		return act{fmt.Sprint("SetBits ", e, n), func(t table) string { return fmt.Sprint(t.SetBits(e, n)) }}
	case 2:
		return act{fmt.Sprint("Notify ", e, n), func(t table) string { return fmt.Sprint(t.Notify(e, n)) }}
	case 3:
		return act{fmt.Sprint("Wait ", e), func(t table) string { return fmt.Sprint(t.Wait(e)) }}
	case 4:
		return act{fmt.Sprint("Freeze ", e, on), func(t table) string { return fmt.Sprint(t.Freeze(e, on)) }}
	default:
		return act{fmt.Sprint("SetState ", e, state, n), func(t table) string { return fmt.Sprint(t.SetState(e, state, n)) }}
	}
}

// state: all that a table tells, at the numbers -1 to 16; comparable.
type state struct {
	envs   [18]api.Env
	codes  [18]api.Errno
	kids   [18]string
	trees  [18]string
	runs   [18]bool
	found  [18]int
	inside [18][18]bool
	live   string
}

func tell(t table) state {
	s := state{live: fmt.Sprint(t.Live())}
	for i := range s.envs {
		s.envs[i], s.codes[i] = t.Info(i - 1)
		s.kids[i] = fmt.Sprint(t.Children(i - 1))
		s.trees[i] = fmt.Sprint(t.Tree(i - 1))
		s.runs[i] = t.Runs(i - 1)
		s.found[i] = t.Find(s.envs[i].Serial)
		for k := range s.inside {
			s.inside[k][i] = t.Inside(k-1, i-1)
		}
	}
	return s
}

// unpaid: P9.2 told of what the table itself tells: carved, from the children; paid, as what is missing then.
func unpaid(t table) string {
	paid := map[int]parts{}
	for _, e := range t.Live() {
		x, _ := t.Info(e)
		kids, _ := t.Children(e)
		p := partsOf(x.Quota).plus(partsOf(x.Left), -1)
		for _, k := range kids {
			y, _ := t.Info(k)
			p = p.plus(partsOf(y.Quota), -1).plus(parts{0, 1, 0}, -1)
		}
		if !p.good() || !partsOf(x.Left).good() {
			return fmt.Sprint("of ", e, " is paid ", p, ", left ", x.Left)
		}
		paid[e] = p
	}
	for _, root := range t.Live() {
		x, _ := t.Info(root)
		tree, _ := t.Tree(root)
		var sum parts
		for _, e := range tree {
			sum = sum.plus(paid[e], 1)
		}
		if !sum.within(partsOf(x.Quota)) || len(tree)-1 > x.Quota.Envs {
			return fmt.Sprint("the tree of ", root, " has ", len(tree), " and paid ", sum, ", its quota is ", x.Quota)
		}
	}
	return ""
}

// noTree tells what of P9.3 a table breaks, if anything.
func noTree(t table) string {
	live := t.Live()
	for _, e := range live {
		x, _ := t.Info(e)
		if e == 0 {
			if x.Parent != -1 {
				return fmt.Sprint("the parent of 0 is ", x.Parent)
			}
			continue
		}
		if above, code := t.Info(x.Parent); code != api.OK || above.Serial >= x.Serial {
			return fmt.Sprint(e, " of serial ", x.Serial, " has the parent ", x.Parent, " of serial ", above.Serial)
		}
	}
	walk, _ := t.Tree(0)
	slices.Sort(walk)
	if !slices.Equal(walk, live) {
		return fmt.Sprint("the walk of 0 has ", walk, ", there live ", live)
	}
	return ""
}

// highest tells the serials' greatest, for the next one to be above.
func (m *model) highest() int { return slices.Max(m.made) }

func TestScriptsAgainstTheModel(t *testing.T) {
	for seed := range 60 {
		r := dice(seed)
		first, q := r.of(1, 1, 1, -5, 0, 1<<61), r.quota(60)
		a, m := env.New(first, q), newModel(first, q)
		for k := range 300 {
			c := r.sets()
			if r.below(2) == 0 {
				c = r.grows(m.highest())
			}
			if got, want := c.do(a), c.do(m); got != want {
				t.Fatalf("P9.1: seed %d, call %d: %s: %s, want %s", seed, k, c.name, got, want)
			}
			if now, want := tell(a), tell(m); now != want {
				t.Fatalf("P9.1: seed %d, call %d: %s: the table is %v, want %v", seed, k, c.name, now, want)
			}
			if w := unpaid(a); w != "" {
				t.Fatalf("P9.2: seed %d, call %d: %s: %s", seed, k, c.name, w)
			}
			if w := noTree(a); w != "" {
				t.Fatalf("P9.3: seed %d, call %d: %s: %s", seed, k, c.name, w)
			}
		}
	}
}

// grown: a table and its model behind a script, with the dice that made it.
func grown(seed int) (*env.Table, *model, *dice) {
	r := dice(seed)
	q := api.Quota{Frames: 90, Envs: 12 + r.below(40), Extents: 40}
	a, m := env.New(1, q), newModel(1, q)
	for range 120 {
		c := r.sets()
		if r.below(3) > 0 {
			c = r.grows(m.highest())
		}
		c.do(a)
		c.do(m)
	}
	return a, m, &r
}

func TestEndingEndsTheWalkAlone(t *testing.T) {
	for seed := range 40 {
		a, _, _ := grown(seed)
		for _, e := range a.Live() {
			walk, code := a.Tree(e)
			if code != api.OK || e == 0 {
				continue // it went with one before it
			}
			before := tell(a)
			x := before.envs[e+1]
			ended, code := a.Destroy(e)
			if code != api.OK || !slices.Equal(ended, walk) {
				t.Fatalf("P9.3: seed %d: Destroy(%d) = %v, %d, want %v, OK", seed, e, ended, code, walk)
			}
			want := before.envs
			for _, n := range walk {
				want[n+1] = api.Env{}
			}
			up := partsOf(want[x.Parent+1].Left).plus(partsOf(x.Quota), 1).plus(parts{0, 1, 0}, 1)
			want[x.Parent+1].Left = up.quota()
			if now := tell(a); now.envs != want {
				t.Fatalf("P9.3: seed %d: behind Destroy(%d): %v, want %v", seed, e, now.envs, want)
			}
		}
	}
}

func TestRoomComesBack(t *testing.T) {
	tried := 0
	for seed := range 60 {
		a, m, r := grown(seed)
		serial := m.highest()
		for range 20 {
			before := tell(a)
			serial++
			parent, q := r.number(), r.quota(3)
			e, code := a.Create(parent, serial, q)
			if code == api.OK {
				a.Notify(e, 7)
				a.Pay(e, q)
				a.SetState(e, 1, 9)
				a.Freeze(e, true)
				a.Destroy(e)
				tried++
			}
			if now := tell(a); now != before {
				t.Fatalf("P9.4: seed %d: made %d under %d and ended: %v, want %v", seed, e, parent, now, before)
			}
			serial++
			if n, again := a.Create(parent, serial, q); n != e || again != code {
				t.Fatalf("P9.4: seed %d: made again: %d, %d, want %d, %d", seed, n, again, e, code)
			}
			a.Destroy(e)
		}
	}
	if tried < 200 {
		t.Errorf("P9.4: only %d were made", tried)
	}
}

func TestFreezingStopsTheTreeAlone(t *testing.T) {
	for seed := range 60 {
		a, _, _ := grown(seed)
		for _, e := range a.Live() {
			a.Freeze(e, false)
			before := tell(a)
			a.Freeze(e, true)
			want := before
			want.envs[e+1].Frozen = true
			for i := range want.runs {
				want.runs[i] = before.runs[i] && !before.inside[e+1][i]
			}
			if now := tell(a); now != want {
				t.Fatalf("P9.5: seed %d: Freeze(%d, true): %v, want %v", seed, e, now, want)
			}
			a.Freeze(e, true)
			a.Freeze(e, false)
			if now := tell(a); now != before {
				t.Fatalf("P9.5: seed %d: Freeze(%d, false): %v, want %v", seed, e, now, before)
			}
		}
	}
}

// laid lays into both: a root with much left; 1, with little left, and 2 below it; 3, with an environment left; 4, with nothing left.
func laid(t table) {
	t.Create(0, 11, api.Quota{Frames: 5, Envs: 4, Extents: 3})
	t.Create(1, 12, api.Quota{Frames: 3, Envs: 2, Extents: 1})
	t.Create(0, 13, api.Quota{Envs: 1})
	t.Create(0, 14, api.Quota{})
	t.Pay(1, api.Quota{Frames: 1, Envs: 0, Extents: 1})
}

func newLaid() (*env.Table, *model) {
	q := api.Quota{Frames: 1 << 62, Envs: 40, Extents: 9}
	a, m := env.New(10, q), newModel(10, q)
	laid(a)
	laid(m)
	return a, m
}

func TestOrderOfErrorsOfCreate(t *testing.T) {
	a, m := newLaid()
	before := tell(a)
	edges := []int{math.MinInt, -1, 0, 1, 2, 3, 5, 1<<62 - 1, 1 << 62, math.MaxInt}
	for _, parent := range []int{-1, 0, 1, 2, 3, 4, 5, 16} {
		for _, serial := range []int{math.MinInt, 0, 10, 14, 15, 99, 1<<62 - 1, 1 << 62, math.MaxInt} {
			for part := range 3 {
				for _, n := range edges {
					var p parts
					p[part] = n
					e, code := a.Create(parent, serial, p.quota())
					wantE, want := m.Create(parent, serial, p.quota())
					if e != wantE || code != want {
						t.Fatalf("P9.1: Create(%d, %d, %v) = %d, %d, want %d, %d", parent, serial, p, e, code, wantE, want)
					}
					now := tell(a)
					if code != api.OK && now != before || now != tell(m) {
						t.Fatalf("P9.1: Create(%d, %d, %v) = %d, %d, and the table is %v", parent, serial, p, e, code, now)
					}
					if code == api.OK {
						a, m = newLaid()
					}
				}
			}
		}
	}
}

func TestOrderOfErrorsOfPayAndRefund(t *testing.T) {
	a, m := newLaid()
	edges := []int{math.MinInt, -1, 0, 1, 2, 3, 1<<62 - 1, 1 << 62, math.MaxInt}
	for _, e := range []int{-1, 0, 1, 2, 4, 5, 16} {
		for _, f := range edges {
			for _, n := range edges {
				for _, x := range edges {
					q := parts{f, n, x}.quota()
					if code, want := a.Pay(e, q), m.Pay(e, q); code != want {
						t.Fatalf("P9.1: Pay(%d, %v) = %d, want %d", e, q, code, want)
					}
					if code, want := a.Refund(e, q), m.Refund(e, q); code != want {
						t.Fatalf("P9.1: Refund(%d, %v) = %d, want %d", e, q, code, want)
					}
					got, _ := a.Info(e)
					want, _ := m.Info(e)
					if got != want {
						t.Fatalf("P9.2: behind Pay and Refund(%d, %v): %v, want %v", e, q, got, want)
					}
				}
			}
		}
	}
}
