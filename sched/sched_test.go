package sched_test

import (
	"math"
	"slices"
	"testing"

	"amber/api"
	"amber/sched"
)

// kinds: all that there are.
var kinds = []int{sched.Turns, sched.Shares, sched.Ranks}

func newPlan(t *testing.T, kind int) *sched.Plan {
	t.Helper()
	p, code := sched.New(kind)
	if p == nil || code != api.OK {
		t.Fatalf("P24.1: New(%d) = %v, %d", kind, p, code)
	}
	return p
}

// chooses: a choice that must be that one.
func chooses(t *testing.T, p *sched.Plan, want int, ready ...int) {
	t.Helper()
	if got, code := p.Next(ready); got != want || code != api.OK {
		t.Errorf("P24.1: Next(%v) = %d, %d, want %d", ready, got, code, want)
	}
}

// refuses: a Next that must be refused, and change nothing that is told.
func refuses(t *testing.T, p *sched.Plan, want api.Errno, ready ...int) {
	t.Helper()
	before := p.Told()
	if got, code := p.Next(ready); got != 0 || code != want {
		t.Errorf("P24.1: Next(%v) = %d, %d, want the error %d", ready, got, code, want)
	}
	tells(t, p, before...)
}

func sets(t *testing.T, p *sched.Plan, serial, weight int) {
	t.Helper()
	if code := p.Set(serial, weight); code != api.OK {
		t.Errorf("P24.1: Set(%d, %d) = %d", serial, weight, code)
	}
}

func refusesSet(t *testing.T, p *sched.Plan, serial, weight int) {
	t.Helper()
	before := p.Told()
	if code := p.Set(serial, weight); code != api.ErrArg {
		t.Errorf("P24.1: Set(%d, %d) = %d, want ErrArg", serial, weight, code)
	}
	tells(t, p, before...)
}

func tells(t *testing.T, p *sched.Plan, want ...api.Share) {
	t.Helper()
	if got := p.Told(); !slices.Equal(got, want) {
		t.Errorf("P24.1: Told = %v, want %v", got, want)
	}
}

func row(serial, weight, pass int) api.Share {
	return api.Share{Serial: serial, Weight: weight, Pass: pass}
}

// TestExample1: by turns.
func TestExample1(t *testing.T) {
	p := newPlan(t, sched.Turns)
	chooses(t, p, 3, 7, 3, 5)
	chooses(t, p, 5, 3, 5, 7)
	chooses(t, p, 7, 3, 7)
	chooses(t, p, 3, 3, 5, 7)
	chooses(t, p, 2, 2, 3)
	refuses(t, p, api.ErrState)
	refuses(t, p, api.ErrArg, 4, 4)
	refuses(t, p, api.ErrArg, 0, 4)
	chooses(t, p, 1, 1)
	rows := []api.Share{row(1, 1, 1), row(2, 1, 0), row(3, 1, 0), row(5, 1, 0), row(7, 1, 0)}
	tells(t, p, rows...)
	sets(t, p, 9, 8)
	refusesSet(t, p, 9, 9)
	refusesSet(t, p, 0, 1)
	tells(t, p, append(rows, row(9, 8, 0))...)
}

// TestExamples2And3: by shares, and the plan goes on with a newcomer.
func TestExamples2And3(t *testing.T) {
	p := newPlan(t, sched.Shares)
	sets(t, p, 1, 2)
	sets(t, p, 2, 1)
	for _, turn := range []api.Share{row(1, 2, 420), row(2, 1, 840), row(1, 2, 840), row(1, 2, 1260), row(2, 1, 1680), row(1, 2, 1680), row(1, 2, 2100)} {
		chooses(t, p, turn.Serial, 1, 2)
		if told := p.Told(); told[turn.Serial-1] != turn {
			t.Errorf("P24.1: behind its turn %v is told, want %v", told[turn.Serial-1], turn)
		}
	}
	tells(t, p, row(1, 2, 2100), row(2, 1, 1680))
	chooses(t, p, 2, 1, 2, 3)
	tells(t, p, row(1, 2, 2100), row(2, 1, 2520), row(3, 1, 1680))
	chooses(t, p, 3, 1, 2, 3)
	tells(t, p, row(1, 2, 2100), row(2, 1, 2520), row(3, 1, 2520))
	chooses(t, p, 2, 2)
	tells(t, p, row(1, 2, 2100), row(2, 1, 3360), row(3, 1, 2520))
	chooses(t, p, 1, 1, 2, 3)
	tells(t, p, row(1, 2, 2940), row(2, 1, 3360), row(3, 1, 2520))
	sets(t, p, 2, 8)
	tells(t, p, row(1, 2, 2940), row(2, 8, 2625), row(3, 1, 2520))
}

// TestExample4: by ranks.
func TestExample4(t *testing.T) {
	p := newPlan(t, sched.Ranks)
	sets(t, p, 1, 3)
	sets(t, p, 2, 1)
	for _, want := range []int{1, 1, 1, 2, 1, 1} {
		chooses(t, p, want, 1, 2)
	}
	tells(t, p, row(1, 3, 0), row(2, 1, 2))
	chooses(t, p, 2, 2, 3)
	tells(t, p, row(1, 3, 0), row(2, 1, 0), row(3, 1, 1))
}

// TestNew: the fifth example; and a new plan knows nothing.
func TestNew(t *testing.T) {
	for _, kind := range []int{0, 4, 5, -1, math.MinInt, math.MaxInt} {
		if p, code := sched.New(kind); p != nil || code != api.ErrArg {
			t.Errorf("P24.1: New(%d) = %v, %d, want nil and ErrArg", kind, p, code)
		}
	}
	for _, kind := range kinds {
		p := newPlan(t, kind)
		tells(t, p)
		refuses(t, p, api.ErrState)
	}
	if sched.Turns != 1 || sched.Shares != 2 || sched.Ranks != 3 {
		t.Errorf("P24.1: the kinds are %v", kinds)
	}
}

// TestRefusedLists: what Next refuses, with which error, wherever in the list the fault stands.
func TestRefusedLists(t *testing.T) {
	for _, kind := range kinds {
		p := newPlan(t, kind)
		for range 2 { // the second time behind a choice
			for _, ready := range [][]int{
				{0}, {-1}, {math.MinInt}, {3, 0}, {0, 3}, {3, -7, 4}, {4, 4}, {4, 5, 4}, {5, 4, 4}, {4, 4, 5},
				{0, 0}, {math.MaxInt, 1, math.MaxInt}, {math.MinInt, math.MaxInt}, {9, 8, 7, 6, 5, 9},
			} {
				refuses(t, p, api.ErrArg, ready...)
			}
			refuses(t, p, api.ErrState)
			refuses(t, p, api.ErrState, []int{}...)
			chooses(t, p, math.MaxInt, math.MaxInt)
		}
	}
}

// TestRefusedSets: the edges of serials and weights.
func TestRefusedSets(t *testing.T) {
	for _, kind := range kinds {
		p := newPlan(t, kind)
		for range 2 { // the second time with one known
			for _, weight := range []int{0, 9, -1, math.MinInt, math.MaxInt} {
				refusesSet(t, p, 3, weight)
				refusesSet(t, p, 0, weight)
			}
			for _, serial := range []int{0, -1, math.MinInt} {
				for weight := 1; weight <= api.MaxWeight; weight++ {
					refusesSet(t, p, serial, weight)
				}
			}
			sets(t, p, 3, 4)
		}
		sets(t, p, 1, 1)
		sets(t, p, math.MaxInt, api.MaxWeight)
		tells(t, p, row(1, 1, 0), row(3, 4, 0), row(math.MaxInt, 8, 0))
	}
}

// TestRefusedIsUnchanged: two plans, of which one is also asked what is refused, choose and tell the same.
func TestRefusedIsUnchanged(t *testing.T) {
	for _, kind := range kinds {
		d := dice(kind)
		plain, pestered := newPlan(t, kind), newPlan(t, kind)
		for range 300 {
			pestered.Next(nil)
			pestered.Next([]int{1, 2, 2})
			pestered.Next([]int{6, 5, 4, 3, 2, 1, 0})
			pestered.Set(1+d.below(6), 9)
			pestered.Set(-d.below(6), 8)
			ready := d.ready(1, 2, 3, 4, 5, 6)
			want, _ := plain.Next(ready)
			chooses(t, pestered, want, ready...)
			serial, weight := 1+d.below(6), 1+d.below(8)
			sets(t, plain, serial, weight)
			sets(t, pestered, serial, weight)
			tells(t, pestered, plain.Told()...)
		}
	}
}

// TestKnown: a serial that was set, and each of a list that was taken, in rising order, of weight 1 until it is set.
func TestKnown(t *testing.T) {
	for _, kind := range kinds {
		p := newPlan(t, kind)
		sets(t, p, 6, 5)
		p.Next([]int{8, 2})
		p.Next([]int{7, 7})
		sets(t, p, 4, 1)
		var serials, weights []int
		for _, r := range p.Told() {
			serials, weights = append(serials, r.Serial), append(weights, r.Weight)
		}
		if !slices.Equal(serials, []int{2, 4, 6, 8}) || !slices.Equal(weights, []int{1, 1, 5, 1}) {
			t.Errorf("P24.1: kind %d knows %v with the weights %v", kind, serials, weights)
		}
	}
}

// TestTurnsAtTheEdges: round from the greatest serial to the least, and weights are nothing to it.
func TestTurnsAtTheEdges(t *testing.T) {
	p := newPlan(t, sched.Turns)
	sets(t, p, math.MaxInt, api.MaxWeight)
	chooses(t, p, 1, math.MaxInt, 1)
	chooses(t, p, math.MaxInt, math.MaxInt, 1)
	tells(t, p, row(1, 1, 0), row(math.MaxInt, 8, 1))
	sets(t, p, math.MaxInt, 1)
	tells(t, p, row(1, 1, 0), row(math.MaxInt, 1, 1))
	chooses(t, p, math.MaxInt, math.MaxInt)
	chooses(t, p, 1, 1, math.MaxInt)
	chooses(t, p, 5, 1, 5, math.MaxInt)
	chooses(t, p, 1, 4, 1) // nobody above 5 is ready: the least, not the next below
	chooses(t, p, 4, 4, 1)
}

// TestSharesSet: a pass comes down to the mark and a turn of the new weight, never up.
func TestSharesSet(t *testing.T) {
	p := newPlan(t, sched.Shares)
	chooses(t, p, 4, 4)
	chooses(t, p, 4, 4)
	tells(t, p, row(4, 1, 1680)) // the mark is 840
	for _, step := range []api.Share{row(4, 2, 1260), row(4, 1, 1260), row(4, 3, 1120), row(4, 8, 945), row(4, 7, 945), row(4, 1, 945)} {
		sets(t, p, step.Serial, step.Weight)
		tells(t, p, step)
	}
	sets(t, p, 2, 1) // unknown till now: it stays at 0, till it is ready
	tells(t, p, row(2, 1, 0), row(4, 1, 945))
	chooses(t, p, 2, 4, 2)
	tells(t, p, row(2, 1, 1680), row(4, 1, 945))
}

// TestSharesStrides: by how much a turn makes the pass grow, for each weight.
func TestSharesStrides(t *testing.T) {
	for weight, stride := range []int{1: 840, 420, 280, 210, 168, 140, 120, 105} {
		if weight == 0 {
			continue
		}
		p := newPlan(t, sched.Shares)
		sets(t, p, 6, weight)
		chooses(t, p, 6, 6)
		tells(t, p, row(6, weight, stride))
		chooses(t, p, 6, 6)
		tells(t, p, row(6, weight, 2*stride))
	}
}

// TestSharesNewcomers: who was away comes back at the mark, or where it stood, if that is above it.
func TestSharesNewcomers(t *testing.T) {
	p := newPlan(t, sched.Shares)
	sets(t, p, 1, 8)
	chooses(t, p, 1, 1, 2)
	chooses(t, p, 2, 1, 2) // the mark is 0, 2 stands at 840
	chooses(t, p, 1, 1)    // at 105: 2 is away
	chooses(t, p, 1, 1, 2) // 2 stands above the mark still
	tells(t, p, row(1, 8, 315), row(2, 1, 840))
	for range 10 {
		chooses(t, p, 1, 1)
	}
	tells(t, p, row(1, 8, 1365), row(2, 1, 840)) // away, it stays where it is
	chooses(t, p, 2, 1, 2)                       // back, it begins at the mark, 1260
	tells(t, p, row(1, 8, 1365), row(2, 1, 2100))
}

// TestRanksForget: the counts of those that are not ready go, those of the others stay whatever is set.
func TestRanksForget(t *testing.T) {
	p := newPlan(t, sched.Ranks)
	sets(t, p, 1, 8)
	for range 5 {
		chooses(t, p, 1, 1, 2, 3)
	}
	tells(t, p, row(1, 8, 0), row(2, 1, 5), row(3, 1, 5))
	sets(t, p, 3, 2)
	sets(t, p, 2, 2)
	tells(t, p, row(1, 8, 0), row(2, 2, 5), row(3, 2, 5))
	chooses(t, p, 1, 1, 3)
	tells(t, p, row(1, 8, 0), row(2, 2, 0), row(3, 2, 6))
	chooses(t, p, 1, 1, 2, 3) // 8 to 2 to 8: the least serial
	tells(t, p, row(1, 8, 0), row(2, 2, 1), row(3, 2, 7))
	chooses(t, p, 3, 1, 2, 3)
	tells(t, p, row(1, 8, 1), row(2, 2, 2), row(3, 2, 0))
	chooses(t, p, 9, 9)
	tells(t, p, row(1, 8, 0), row(2, 2, 0), row(3, 2, 0), row(9, 1, 0))
}

// TestNothingIsShared: what is handed in is neither kept nor changed, and what is told is the caller's.
func TestNothingIsShared(t *testing.T) {
	for _, kind := range kinds {
		p, twin := newPlan(t, kind), newPlan(t, kind)
		for range 20 {
			room := []int{6, 2, 5, 77, 78}
			ready := room[:3]
			got, _ := p.Next(ready)
			want, _ := twin.Next([]int{2, 5, 6})
			if got != want || !slices.Equal(room, []int{6, 2, 5, 77, 78}) {
				t.Fatalf("P24.1: kind %d: Next chose %d, want %d, and left the list as %v", kind, got, want, room)
			}
			copy(ready, []int{1, 1, -4})
			told := p.Told()
			for i := range told {
				told[i] = row(-1, -1, -1)
			}
			_ = append(told[:0], row(-2, -2, -2))
			tells(t, p, twin.Told()...)
		}
	}
}
