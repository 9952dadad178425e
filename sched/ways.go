package sched

import (
	"cmp"
	"slices"
)

// way: a kind of plan, with what it keeps beside the weights. It is asked of known serials alone.
type way interface {
	// set: the serial has this weight from now on.
	set(serial, weight int)
	// choose chooses one of a list that rises and is not empty.
	choose(ready []int, weights map[int]int) int
	// pass: the number that is told of the serial.
	pass(serial int) int
}

// wayOf: nil, if there is no such kind.
func wayOf(kind int) way {
	switch kind {
	case Turns:
		return &turns{}
	case Shares:
		return &shares{passes: map[int]int{}}
	case Ranks:
		return &ranks{}
	}
	return nil
}

// turns: one after the other, by rising serial, round and round.
type turns struct {
	last int // the one that was chosen last
}

func (t *turns) set(serial, weight int) {}

func (t *turns) choose(ready []int, weights map[int]int) int {
	above := slices.IndexFunc(ready, func(serial int) bool { return serial > t.last })
	t.last = ready[max(above, 0)]
	return t.last
}

func (t *turns) pass(serial int) int {
	if serial == t.last {
		return 1
	}
	return 0
}

// stride: by how much the pass of one that has weight 1 grows with its turn; each weight divides it.
const stride = 840

// shares: each has a pass that grows with its turns, the slower the greater its weight; the least pass goes next.
type shares struct {
	passes map[int]int // of each known serial
	mark   int         // the pass of the last chosen one ahead of its turn: newcomers have no claim to turns from before it
}

func (s *shares) set(serial, weight int) {
	// One that grew by a small weight must not wait for that, when its weight is greater now.
	s.passes[serial] = min(s.passes[serial], s.mark+stride/weight)
}

func (s *shares) choose(ready []int, weights map[int]int) int {
	s.admit(ready)
	chosen := slices.MinFunc(ready, func(a, b int) int { return cmp.Compare(s.passes[a], s.passes[b]) })
	s.mark = s.passes[chosen]
	s.passes[chosen] += stride / weights[chosen]
	return chosen
}

// admit lets newcomers begin at the mark, unless they stand above it from earlier turns. Who stayed need not be told apart: the mark was the least pass of all that were ready, and set lowers none below it.
func (s *shares) admit(ready []int) {
	for _, serial := range ready {
		s.passes[serial] = max(s.passes[serial], s.mark)
	}
}

func (s *shares) pass(serial int) int { return s.passes[serial] }

// ranks: the greatest weight goes next, and each choice that one waits counts as one more.
type ranks struct {
	// waited: choices, of those that were ready at the last one. Who was not is not in it, and so is 0, as a newcomer must be.
	waited map[int]int
}

func (r *ranks) set(serial, weight int) {}

func (r *ranks) choose(ready []int, weights map[int]int) int {
	chosen := slices.MaxFunc(ready, func(a, b int) int {
		return cmp.Compare(weights[a]+r.waited[a], weights[b]+r.waited[b])
	})
	waited := make(map[int]int, len(ready))
	for _, serial := range ready {
		waited[serial] = r.waited[serial] + 1
	}
	delete(waited, chosen)
	r.waited = waited
	return chosen
}

func (r *ranks) pass(serial int) int { return r.waited[serial] }
