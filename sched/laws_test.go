package sched_test

import (
	"maps"
	"slices"
	"testing"

	"amber/api"
	"amber/sched"
)

// choice: who was ready, and who was chosen; fresh: something was set since the choice before.
type choice struct {
	ready  []int
	chosen int
	fresh  bool
}

// choose does a choice and writes it down.
func choose(t *testing.T, p *sched.Plan, book []choice, ready []int, fresh bool) []choice {
	t.Helper()
	got, code := p.Next(ready)
	if code != api.OK || !slices.Contains(ready, got) {
		t.Fatalf("P24.1: Next(%v) = %d, %d", ready, got, code)
	}
	return append(book, choice{ready, got, fresh})
}

// history: choices by dice. The one that is spared is ready at all of them; the others come and go, and weights change.
func history(t *testing.T, d *dice, kind, length, others int) []choice {
	t.Helper()
	p := newPlan(t, kind)
	spared := 1 + d.below(others+1)
	away := map[int]int{}
	var book []choice
	for range length {
		fresh := d.below(3) == 0
		if fresh {
			sets(t, p, 1+d.below(others+1), 1+d.below(8))
		}
		if d.below(4) == 0 {
			sets(t, p, spared, 1)
			fresh = true
		}
		var ready []int
		for serial := 1; serial <= others+1; serial++ {
			if d.below(5) == 0 {
				away[serial] ^= 1
			}
			if serial == spared || away[serial] == 0 {
				ready = append(ready, serial)
			}
		}
		book = choose(t, p, book, d.shuffled(ready), fresh)
	}
	return book
}

// waits goes through all stretches of a book in which a serial is ready throughout and never chosen; it tells their length, how many different ones were ready in them, and how many at most at once.
func waits(book []choice, look func(serial, length, different, atOnce int)) {
	for begin := range book {
		for _, serial := range book[begin].ready {
			seen, atOnce := map[int]int{}, 0
			for i, c := range book[begin:] {
				if !slices.Contains(c.ready, serial) || c.chosen == serial {
					break
				}
				for _, one := range c.ready {
					seen[one]++
				}
				atOnce = max(atOnce, len(c.ready))
				look(serial, i+1, len(seen), atOnce)
			}
		}
	}
}

// TestNobodyStarvesByTurns: of U choices one is it, so a stretch without it is shorter than U.
func TestNobodyStarvesByTurns(t *testing.T) {
	for seed := range 150 {
		d := dice(seed)
		waits(history(t, &d, sched.Turns, 60, 1+seed%9), func(serial, length, different, _ int) {
			if length >= different {
				t.Fatalf("P24.2: seed %d: %d was ready at %d choices and not chosen, with %d different ones ready", seed, serial, length, different)
			}
		})
	}
}

// TestTurnsBoundIsReached: with all of them ready always, each waits for just all the others.
func TestTurnsBoundIsReached(t *testing.T) {
	for n := 1; n <= 20; n++ {
		p := newPlan(t, sched.Turns)
		all := serials(n)
		var book []choice
		for range 3 * n {
			book = choose(t, p, book, all, false)
		}
		for i, c := range book {
			if c.chosen != 1+i%n {
				t.Fatalf("P24.2: %d ready: choice %d is %d", n, i, c.chosen)
			}
		}
	}
}

// TestNewcomersByTurns: ever new ones, above and below, keep nobody from its turn.
func TestNewcomersByTurns(t *testing.T) {
	for _, newcomer := range []func(i int) int{func(i int) int { return 100 + i }, func(i int) int { return 99 - i }, func(i int) int { return 100 + i - 2*i*(i%2) }} {
		p := newPlan(t, sched.Turns)
		var book []choice
		for i := 1; i < 60; i++ {
			book = choose(t, p, book, []int{newcomer(i), 100}, false)
		}
		waits(book, func(serial, length, different, _ int) {
			if length >= different {
				t.Fatalf("P24.2: %d waited for %d choices, with %d different ones ready", serial, length, different)
			}
		})
	}
}

func serials(n int) []int {
	var l []int
	for serial := 1; serial <= n; serial++ {
		l = append(l, serial)
	}
	return l
}

// TestNobodyStarvesByRanks: whatever is set, a stretch without it is shorter than MaxWeight and those that are ready.
func TestNobodyStarvesByRanks(t *testing.T) {
	for seed := range 150 {
		d := dice(seed)
		waits(history(t, &d, sched.Ranks, 80, 1+seed%9), func(serial, length, _, atOnce int) {
			if length >= api.MaxWeight+atOnce {
				t.Fatalf("P24.3: seed %d: %d was ready at %d choices and not chosen, with %d ready at once", seed, serial, length, atOnce)
			}
		})
	}
}

// TestTheLightestAmongTheHeaviest: the longest that one can wait behind n - 1 of the greatest weight, ready always.
func TestTheLightestAmongTheHeaviest(t *testing.T) {
	for n := 2; n <= 20; n++ {
		p := newPlan(t, sched.Ranks)
		for serial := 1; serial < n; serial++ {
			sets(t, p, serial, api.MaxWeight)
		}
		waited := 0
		for {
			got, _ := p.Next(serials(n))
			if got == n {
				break
			}
			waited++
			if waited >= api.MaxWeight+n {
				t.Fatalf("P24.3: the lightest of %d is not chosen in %d choices", n, waited)
			}
		}
		if want := api.MaxWeight - 1 + n - 1; waited != want {
			t.Errorf("P24.3: the lightest of %d waits for %d choices, want %d", n, waited, want)
		}
	}
}

// TestHeavyNewcomersByRanks: new ones of the greatest weight at each choice, and the one that waits is set to the least again and again.
func TestHeavyNewcomersByRanks(t *testing.T) {
	for n := 2; n <= 12; n++ {
		p := newPlan(t, sched.Ranks)
		const waiting = 1 << 40
		var book []choice
		for i := range 100 {
			ready := []int{waiting}
			for j := range n - 1 {
				ready = append(ready, 1+i*(n-1)+j)
				sets(t, p, ready[j+1], api.MaxWeight)
			}
			sets(t, p, waiting, 1)
			book = choose(t, p, book, ready, true)
		}
		waits(book, func(serial, length, _, _ int) {
			if length >= api.MaxWeight+n {
				t.Fatalf("P24.3: %d waited for %d choices, with %d ready", serial, length, n)
			}
		})
	}
}

// stretches: the parts of a book at whose choices the same ones are ready and between which nothing is set.
func stretches(book []choice) [][]choice {
	var out [][]choice
	begin := 0
	for i := 1; i <= len(book); i++ {
		if i == len(book) || book[i].fresh || !sameSerials(book[i].ready, book[i-1].ready) {
			out = append(out, book[begin:i])
			begin = i
		}
	}
	return out
}

func sameSerials(a, b []int) bool {
	return slices.Equal(slices.Sorted(slices.Values(a)), slices.Sorted(slices.Values(b)))
}

// fair holds every part of a stretch against the promise.
func fair(t *testing.T, seed int, part []choice, weights map[int]int) {
	t.Helper()
	for begin := range part {
		counts := map[int]int{}
		for _, c := range part[begin:] {
			counts[c.chosen]++
			for _, i := range c.ready {
				for _, j := range c.ready {
					v, w := 840/weights[i], 840/weights[j]
					if counts[i]*v-counts[j]*w > v+w {
						t.Fatalf("P24.4: seed %d: %d of weight %d was chosen %d times, %d of weight %d %d times", seed, i, weights[i], counts[i], j, weights[j], counts[j])
					}
				}
			}
		}
	}
}

// TestSharesAreFair: behind any past, as long as the same ones are ready.
func TestSharesAreFair(t *testing.T) {
	for seed := range 60 {
		d := dice(seed)
		p := newPlan(t, sched.Shares)
		pool := serials(2 + seed%7)
		for range 8 {
			for range d.below(4) {
				sets(t, p, pool[d.below(len(pool))], 1+d.below(8))
			}
			ready := d.ready(pool...)
			var book []choice
			for range 1 + d.below(50) {
				book = choose(t, p, book, d.shuffled(ready), false)
			}
			weights := map[int]int{}
			for _, r := range p.Told() {
				weights[r.Serial] = r.Weight
			}
			fair(t, seed, book, weights)
		}
	}
}

// TestSharesAreFairAmidComings: the parts of a past in which others come and go.
func TestSharesAreFairAmidComings(t *testing.T) {
	for seed := range 40 {
		d := dice(seed)
		p := newPlan(t, sched.Shares)
		weights := map[int]int{}
		for _, serial := range serials(6) {
			weights[serial] = 1 + d.below(8)
			sets(t, p, serial, weights[serial])
		}
		var book []choice
		ready := d.ready(serials(6)...)
		for range 150 {
			if d.below(9) == 0 {
				ready = d.ready(serials(6)...)
			}
			book = choose(t, p, book, ready, false)
		}
		for _, part := range stretches(book) {
			fair(t, seed, part, weights)
		}
	}
}

// TestSharesToTheTurn: from the beginning on, in as many choices as all weights are together, each has just as many as its own.
func TestSharesToTheTurn(t *testing.T) {
	p := newPlan(t, sched.Shares)
	sum := 0
	for weight := 1; weight <= api.MaxWeight; weight++ {
		sets(t, p, 20-weight, weight)
		sum += weight
	}
	for round := range 5 {
		counts := map[int]int{}
		for range sum {
			got, _ := p.Next([]int{12, 13, 14, 15, 16, 17, 18, 19})
			counts[got]++
		}
		for weight := 1; weight <= api.MaxWeight; weight++ {
			if counts[20-weight] != weight {
				t.Errorf("P24.4: round %d: the weight %d has %d turns of %d", round, weight, counts[20-weight], sum)
			}
		}
	}
}

// TestAPassStaysNearTheMark: no known one stands more than a turn of its own above the mark, whatever is set; and a choice brings no pass down.
func TestAPassStaysNearTheMark(t *testing.T) {
	for seed := range 100 {
		d := dice(seed)
		p := newPlan(t, sched.Shares)
		passes := map[int]int{}
		for range 120 {
			for range d.below(3) {
				sets(t, p, 1+d.below(6), 1+d.below(8))
			}
			before := p.Told()
			got, _ := p.Next(d.ready(serials(6)...))
			mark := 0
			for _, r := range p.Told() {
				passes[r.Serial] = r.Pass
				if r.Serial == got {
					mark = r.Pass - 840/r.Weight
				}
			}
			for _, r := range p.Told() {
				if r.Pass > mark+840/r.Weight {
					t.Fatalf("P24.4: seed %d: %v, and the mark is %d", seed, r, mark)
				}
			}
			for _, r := range before {
				if passes[r.Serial] < r.Pass {
					t.Fatalf("P24.4: seed %d: a choice brought %v down to %d", seed, r, passes[r.Serial])
				}
			}
		}
	}
}

// TestOrderMakesNoDifference: the same ones named in another order, of plans with the same past.
func TestOrderMakesNoDifference(t *testing.T) {
	for _, kind := range kinds {
		for seed := range 30 {
			d := dice(seed)
			one, other := newPlan(t, kind), newPlan(t, kind)
			for range 60 {
				serial, weight := 1+d.below(7), 1+d.below(8)
				sets(t, one, serial, weight)
				sets(t, other, serial, weight)
				ready := d.ready(serials(7)...)
				want, _ := one.Next(slices.Sorted(slices.Values(ready)))
				if got, _ := other.Next(ready); got != want {
					t.Fatalf("P24.5: kind %d, seed %d: Next(%v) = %d, sorted it is %d", kind, seed, ready, got, want)
				}
			}
			tells(t, other, one.Told()...)
		}
	}
}

// TestPlansAreApart: plans that go by turns with others, of any kind, do as they do alone.
func TestPlansAreApart(t *testing.T) {
	type past struct {
		d    dice
		p    *sched.Plan
		said []int
	}
	one := func(x *past) {
		x.p.Set(1+x.d.below(9), 1+x.d.below(8))
		got, _ := x.p.Next(x.d.ready(serials(9)...))
		x.said = append(x.said, got)
	}
	var alone, among []*past
	for i := range 9 {
		alone = append(alone, &past{d: dice(i), p: newPlan(t, kinds[i%3])})
		among = append(among, &past{d: dice(i), p: newPlan(t, kinds[i%3])})
	}
	for _, x := range alone {
		for range 50 {
			one(x)
		}
	}
	for range 50 {
		for _, x := range among {
			one(x)
		}
	}
	for i := range alone {
		if !slices.Equal(alone[i].said, among[i].said) || !slices.Equal(alone[i].p.Told(), among[i].p.Told()) {
			t.Errorf("P24.5: plan %d of kind %d chose %v among others, %v alone", i, kinds[i%3], among[i].said, alone[i].said)
		}
	}
}

// TestManyKnown: a plan that has met very many serials chooses among few of them still, and tells them all in order.
func TestManyKnown(t *testing.T) {
	for _, kind := range kinds {
		p := newPlan(t, kind)
		met := map[int]int{}
		for i := range 60000 {
			ready := []int{1 + i*7919%100003, 200001 + i%3}
			p.Next(ready)
			met[ready[0]], met[ready[1]] = 1, 1
		}
		var got []int
		for _, r := range p.Told() {
			got = append(got, r.Serial)
		}
		if !slices.Equal(got, slices.Sorted(maps.Keys(met))) {
			t.Errorf("P24.1: kind %d tells %d serials of %d", kind, len(got), len(met))
		}
	}
}

// TestLongLists: one long list, named in falling order.
func TestLongLists(t *testing.T) {
	long := serials(100000)
	slices.Reverse(long)
	for _, kind := range kinds {
		p := newPlan(t, kind)
		sets(t, p, 70000, api.MaxWeight)
		for i := range 3 {
			want := map[int]int{sched.Turns: 1 + i, sched.Shares: 1 + i, sched.Ranks: 70000}[kind]
			chooses(t, p, want, long...)
		}
		refuses(t, p, api.ErrArg, append(long, 5)...)
	}
}

// TestManyChoices: one who is chosen always, as nobody else is ready: it gains nothing by it; beside a throng, counts and passes grow past any small number.
func TestManyChoices(t *testing.T) {
	for _, kind := range kinds {
		p := newPlan(t, kind)
		sets(t, p, 7, api.MaxWeight)
		for range 5000 {
			chooses(t, p, 7, 7)
		}
		tells(t, p, row(7, 8, map[int]int{sched.Turns: 1, sched.Shares: 5000 * 105}[kind]))
	}
	p := newPlan(t, sched.Ranks)
	throng := serials(1000)
	for i := range 1000 {
		chooses(t, p, 1+i, throng...)
	}
	for i, r := range p.Told() {
		if r != row(1+i, 1, 999-i) {
			t.Fatalf("P24.1: %v is told, want the count %d", r, 999-i)
		}
	}
}
