package sched_test

import (
	"math"
	"slices"
	"testing"

	"amber/api"
	"amber/sched"
)

// dice: numbers by a fixed rule, so that each run of the test is the same.
type dice uint64

func (d *dice) below(n int) int {
	*d = *d*6364136223846793005 + 1442695040888963407
	return int(uint64(*d)>>33) % n
}

func (d *dice) of(l ...int) int { return l[d.below(len(l))] }

// shuffled: the same numbers in another order.
func (d *dice) shuffled(l []int) []int {
	l = slices.Clone(l)
	for i := range l {
		j := i + d.below(len(l)-i)
		l[i], l[j] = l[j], l[i]
	}
	return l
}

// ready: some of the serials, at least one, in any order.
func (d *dice) ready(serials ...int) []int {
	return d.shuffled(serials)[:1+d.below(len(serials))]
}

// The model: a plan once more, in the words of the document. Who was ready at the choice before is kept, and what is said of newcomers, of those that stayed and of those that are away is done to each known serial, one by one.
type model struct {
	kind   int
	rows   []api.Share // of the known, as they became so; of Turns Pass is not used
	before []int       // ready at the choice before
	last   int
	mark   int
}

func (m *model) of(serial int) *api.Share {
	for i := range m.rows {
		if m.rows[i].Serial == serial {
			return &m.rows[i]
		}
	}
	m.rows = append(m.rows, api.Share{Serial: serial, Weight: 1})
	return &m.rows[len(m.rows)-1]
}

func (m *model) set(serial, weight int) api.Errno {
	if serial < 1 || weight < 1 || weight > 8 {
		return api.ErrArg
	}
	r := m.of(serial)
	r.Weight = weight
	if top := m.mark + 840/weight; m.kind == sched.Shares && r.Pass > top {
		r.Pass = top
	}
	return api.OK
}

func (m *model) next(ready []int) (int, api.Errno) {
	for i, serial := range ready {
		if serial < 1 || slices.Contains(ready[:i], serial) {
			return 0, api.ErrArg
		}
	}
	if len(ready) == 0 {
		return 0, api.ErrState
	}
	for _, serial := range ready {
		m.of(serial)
	}
	switch m.kind {
	case sched.Turns:
		m.byTurns(ready)
	case sched.Shares:
		m.byShares(ready)
	case sched.Ranks:
		m.byRanks(ready)
	}
	m.before = slices.Clone(ready)
	return m.last, api.OK
}

// best: the one of ready that none other is before.
func best(ready []int, before func(a, b int) bool) int {
	for _, one := range ready {
		if !slices.ContainsFunc(ready, func(other int) bool { return before(other, one) }) {
			return one
		}
	}
	return 0
}

func (m *model) byTurns(ready []int) {
	m.last = best(ready, func(a, b int) bool {
		if a > m.last != (b > m.last) {
			return a > m.last
		}
		return a < b
	})
}

func (m *model) byShares(ready []int) {
	for _, serial := range ready {
		if r := m.of(serial); !slices.Contains(m.before, serial) && r.Pass < m.mark {
			r.Pass = m.mark
		}
	}
	m.last = best(ready, func(a, b int) bool {
		if m.of(a).Pass != m.of(b).Pass {
			return m.of(a).Pass < m.of(b).Pass
		}
		return a < b
	})
	r := m.of(m.last)
	m.mark = r.Pass
	r.Pass += 840 / r.Weight
}

func (m *model) byRanks(ready []int) {
	for _, serial := range ready {
		if !slices.Contains(m.before, serial) {
			m.of(serial).Pass = 0
		}
	}
	rank := func(serial int) int { return m.of(serial).Weight + m.of(serial).Pass }
	m.last = best(ready, func(a, b int) bool {
		if rank(a) != rank(b) {
			return rank(a) > rank(b)
		}
		return a < b
	})
	for i := range m.rows {
		switch r := &m.rows[i]; {
		case r.Serial == m.last || !slices.Contains(ready, r.Serial):
			r.Pass = 0
		default:
			r.Pass++
		}
	}
}

func (m *model) told() []api.Share {
	rows := slices.Clone(m.rows)
	slices.SortFunc(rows, func(a, b api.Share) int {
		if a.Serial < b.Serial {
			return -1
		}
		return 1
	})
	for i := range rows {
		if m.kind == sched.Turns && rows[i].Serial == m.last {
			rows[i].Pass = 1
		}
	}
	return rows
}

// TestAgainstTheModel: scripts of sets and choices, some of them refused.
func TestAgainstTheModel(t *testing.T) {
	pools := [][]int{{1, 2}, {1, 2, 3, 4, 5}, {9, 3, 17, 4, 1 << 40, 12, 6, 31}, {math.MaxInt, math.MaxInt - 1, 1, 2, api.MaxSerial}}
	for _, kind := range kinds {
		for seed := range 120 {
			d := dice(seed*3 + kind)
			p, m := newPlan(t, kind), &model{kind: kind}
			for step := range 150 {
				modelStep(t, &d, p, m, pools[seed%len(pools)])
				if t.Failed() {
					t.Fatalf("P24.1: kind %d, seed %d, step %d", kind, seed, step)
				}
			}
		}
	}
}

func modelStep(t *testing.T, d *dice, p *sched.Plan, m *model, pool []int) {
	t.Helper()
	if d.below(5) == 0 {
		serial, weight := pool[d.below(len(pool))], 1+d.below(8)
		if d.below(8) == 0 {
			serial, weight = d.of(serial, 0, -1), d.of(0, 1, 8, 9, -3)
		}
		if got, want := p.Set(serial, weight), m.set(serial, weight); got != want {
			t.Errorf("P24.1: Set(%d, %d) = %d, want %d", serial, weight, got, want)
		}
	} else {
		ready := modelReady(d, m, pool)
		got, code := p.Next(ready)
		if want, refused := m.next(ready); got != want || code != refused {
			t.Errorf("P24.1: Next(%v) = %d, %d, want %d, %d", ready, got, code, want, refused)
		}
	}
	if got, want := p.Told(), m.told(); !slices.Equal(got, want) {
		t.Errorf("P24.1: Told = %v, want %v", got, want)
	}
}

// modelReady: mostly those that were ready before, so that waiting and shares come to something.
func modelReady(d *dice, m *model, pool []int) []int {
	switch d.below(12) {
	case 0:
		return nil
	case 1:
		return append(d.ready(pool...), d.of(0, -5, pool[0]))
	case 2, 3, 4:
		return d.ready(pool...)
	}
	if len(m.before) == 0 {
		return pool
	}
	return d.shuffled(m.before)
}
