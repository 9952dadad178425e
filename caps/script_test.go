package caps_test

import (
	"fmt"
	"math"
	"slices"
	"testing"

	"amber/api"
	"amber/caps"
)

// dice: numbers by a fixed rule, so that each run of the test is the same.
type dice uint64

func (d *dice) below(n int) int {
	*d = *d*6364136223846793005 + 1442695040888963407
	return int(uint64(*d)>>33) % n
}

func (d *dice) of(l ...int) int { return l[d.below(len(l))] }

// env: mostly one of few lists, so that they fill and are derived into one another.
func (d *dice) env() int {
	if d.below(12) == 0 {
		return d.of(-1, 4, 14, 15, 16, math.MinInt, math.MaxInt)
	}
	return d.below(4)
}

func (d *dice) slot() int {
	if d.below(12) == 0 {
		return d.of(-1, 46, 47, 48, math.MinInt, math.MaxInt)
	}
	return d.below(d.of(4, 12, 48))
}

func (d *dice) at() int {
	if d.below(2) == 0 {
		return -1
	}
	if d.below(12) == 0 {
		return d.of(-2, 48, math.MinInt, math.MaxInt)
	}
	return d.below(48)
}

func (d *dice) rights() int {
	if d.below(12) == 0 {
		return d.of(-1, 16, 31, math.MinInt, math.MaxInt)
	}
	if d.below(2) == 0 {
		return d.of(4, 7, 12, 15, 15)
	}
	return d.below(16)
}

func (d *dice) kind() int { return d.of(1, 1, 2, 2, 3, 3, 0, 4) }

func (d *dice) cap() api.Cap {
	obj := d.below(3)
	c := api.Cap{Kind: 1 + d.below(3), Obj: obj, Serial: obj + 1 + d.below(2), Rights: d.rights()}
	if d.below(12) == 0 {
		c.Obj = d.of(-1, 1<<62-1, 1<<62, math.MinInt, math.MaxInt)
	}
	if d.below(12) == 0 {
		c.Serial = d.of(0, -1, 1<<62-1, 1<<62, math.MinInt, math.MaxInt)
	}
	if d.below(12) == 0 {
		c.Kind = d.of(-1, 0, 4, math.MinInt, math.MaxInt)
	}
	return c
}

func (d *dice) inside() []int {
	var l []int
	for range d.below(5) {
		l = append(l, d.env())
	}
	return l
}

// act: one call, told and to be done on any book.
type act struct {
	promise, name string
	into          int // the list that may gain by it; -1: none
	do            func(b book) string
}

// lays: a call by which a list gains.
func (d *dice) lays() act {
	env, slot, to, at, rights, c := d.env(), d.slot(), d.env(), d.at(), d.rights(), d.cap()
	if d.below(3) == 0 {
		return act{"P8.2", fmt.Sprint("Mint ", env, at, c), env, func(b book) string { return fmt.Sprint(b.Mint(env, at, c)) }}
	}
	return act{"P8.3", fmt.Sprint("Derive ", env, slot, to, at, rights), to, func(b book) string { return fmt.Sprint(b.Derive(env, slot, to, at, rights)) }}
}

// takes: a call by which lists lose, or come and go.
func (d *dice) takes() act {
	env, slot, kind, obj := d.env(), d.slot(), d.kind(), d.of(0, 1, 2, -1, 1<<62-1)
	switch d.below(16) {
	case 0, 1, 2:
		return act{"P8.1", fmt.Sprint("Open ", env), -1, func(b book) string { return fmt.Sprint(b.Open(env)) }}
	case 3:
		return act{"P8.6", fmt.Sprint("Shut ", env), -1, func(b book) string { return fmt.Sprint(b.Shut(env)) }}
	case 4:
		return act{"P8.5", fmt.Sprint("Purge ", kind, obj), -1, func(b book) string { return fmt.Sprint(b.Purge(kind, obj)) }}
	case 5, 6:
		return act{"P8.5", fmt.Sprint("Revoke ", env, slot), -1, func(b book) string { return fmt.Sprint(b.Revoke(env, slot)) }}
	default:
		return act{"P8.4", fmt.Sprint("Drop ", env, slot), -1, func(b book) string { return fmt.Sprint(b.Drop(env, slot)) }}
	}
}

// asks: a call that changes nothing.
func (d *dice) asks() act {
	env, slot, kind, n, rights, inside := d.env(), d.slot(), d.kind(), d.of(0, 1, 2, 3, 4, -1, 1<<62-1), d.rights(), d.inside()
	switch d.below(7) {
	case 0:
		return act{"P8.7", fmt.Sprint("Get ", env, slot), -1, func(b book) string { return fmt.Sprint(b.Get(env, slot)) }}
	case 1:
		return act{"P8.7", fmt.Sprint("From ", env, slot), -1, func(b book) string { return fmt.Sprint(b.From(env, slot)) }}
	case 2:
		return act{"P8.7", fmt.Sprint("Up ", env, slot, inside), -1, func(b book) string { return fmt.Sprint(b.Up(env, slot, inside)) }}
	case 3:
		return act{"P8.8", fmt.Sprint("Count ", env, kind), -1, func(b book) string { return fmt.Sprint(b.Count(env, kind)) }}
	case 4:
		return act{"P8.8", fmt.Sprint("On ", kind, n), -1, func(b book) string { return fmt.Sprint(b.On(kind, n)) }}
	case 5:
		return act{"P8.8", fmt.Sprint("Find ", env, kind, n, rights), -1, func(b book) string { return fmt.Sprint(b.Find(env, kind, n, rights)) }}
	default:
		return act{"P8.8", fmt.Sprint("List, Room ", env), -1, func(b book) string {
			l, code := b.List(env)
			return fmt.Sprint(l, code, b.Room(env))
		}}
	}
}

// state: all that a book tells of its lists.
type state struct {
	rooms [18]int // from list -1 on; -1: not open
	caps  []api.CapState
}

func tell(b book) state {
	var s state
	for i := range s.rooms {
		l, code := b.List(i - 1)
		s.rooms[i] = b.Room(i - 1)
		if code != api.OK {
			s.rooms[i] = -1
		}
		for _, h := range l {
			p, _ := b.From(h.Env, h.Slot)
			s.caps = append(s.caps, api.CapState{Held: h, From: p})
		}
	}
	return s
}

func (s state) same(o state) bool { return s.rooms == o.rooms && slices.Equal(s.caps, o.caps) }

func (s state) at(p api.Place) (api.CapState, bool) {
	i := slices.IndexFunc(s.caps, func(c api.CapState) bool { return c.Held.Env == p.Env && c.Held.Slot == p.Slot })
	if i < 0 {
		return api.CapState{}, false
	}
	return s.caps[i], true
}

// wrong tells what of P8.10 a state breaks, if anything.
func (s state) wrong() string {
	for _, c := range s.caps {
		for n, p := 0, c; p.From != (api.Place{Env: -1, Slot: -1}); n++ {
			above, there := s.at(p.From)
			x, y := p.Held.Cap, above.Held.Cap
			if !there || n > len(s.caps) {
				return fmt.Sprint("the parents of ", c, " have no end")
			}
			if x.Kind != y.Kind || x.Obj != y.Obj || x.Serial != y.Serial || x.Rights&y.Rights != x.Rights || y.Rights&4 == 0 {
				return fmt.Sprint(p, " is no child of ", above)
			}
			p = above
		}
	}
	return ""
}

// gained tells the places of s at which a capability lies that did not lie there before.
func (s state) gained(before state) []api.Place {
	var l []api.Place
	for _, c := range s.caps {
		p := api.Place{Env: c.Held.Env, Slot: c.Held.Slot}
		if was, there := before.at(p); !there || was.Held != c.Held {
			l = append(l, p)
		}
	}
	return l
}

func (d *dice) act(takes int) act {
	switch n := d.below(100); {
	case n < 25:
		return d.asks()
	case n < 25+takes:
		return d.takes()
	default:
		return d.lays()
	}
}

func TestScriptsAgainstTheModel(t *testing.T) {
	for seed := range 40 {
		r := dice(seed)
		takes := r.of(4, 12, 30)
		b, m := caps.New(), &model{}
		for env := range r.below(5) {
			b.Open(env)
			m.Open(env)
		}
		before := tell(b)
		for k := range 400 {
			a := r.act(takes)
			got, want := a.do(b), a.do(m)
			if got != want {
				t.Fatalf("%s: seed %d, call %d: %s: %s, want %s", a.promise, seed, k, a.name, got, want)
			}
			now := tell(b)
			if !now.same(tell(m)) {
				t.Fatalf("%s: seed %d, call %d: %s: the book is %v, want %v", a.promise, seed, k, a.name, now, tell(m))
			}
			if w := now.wrong(); w != "" {
				t.Fatalf("P8.10: seed %d, call %d: %s: %s", seed, k, a.name, w)
			}
			if l := now.gained(before); len(l) > 1 || len(l) == 1 && l[0].Env != a.into {
				t.Fatalf("P8.10: seed %d, call %d: %s: there came %v", seed, k, a.name, l)
			}
			before = now
		}
	}
}

// fill lays into both books: list 0 with a capability with all rights (0), one without Grant (1), one to grant and write (2), one without rights (3); list 1 full but for a slot; list 2 full; list 3 empty; no other is open.
func fill(b book) {
	for env := range 4 {
		b.Open(env)
	}
	for i, rights := range []int{15, 11, 6, 0} {
		b.Mint(0, i, api.Cap{Kind: 1 + i%3, Obj: i, Serial: i + 1, Rights: rights})
	}
	for slot := range 48 {
		if slot != 20 {
			b.Mint(1, slot, api.Cap{Kind: 1, Obj: 9, Serial: 9, Rights: 7})
		}
		b.Derive(0, 0, 2, slot, slot%16)
	}
}

// both: a book and its model, filled alike.
type both struct {
	b    *caps.Book
	m    *model
	full state
}

func newBoth() *both {
	p := &both{b: caps.New(), m: &model{}}
	fill(p.b)
	fill(p.m)
	p.full = tell(p.b)
	return p
}

// ask does one call on both. What was refused may have changed nothing; what was done is undone by filling both anew.
func (p *both) ask(t *testing.T, promise string, do func(b book) (int, api.Errno), numbers ...any) {
	t.Helper()
	slot, code := do(p.b)
	wantSlot, want := do(p.m)
	if slot != wantSlot || code != want {
		t.Fatalf("%s: at %v: %d, %d, want %d, %d", promise, numbers, slot, code, wantSlot, want)
	}
	if code != api.OK {
		if now := tell(p.b); !now.same(p.full) {
			t.Fatalf("P8.9: at %v: %d, and yet the book became %v", numbers, code, now)
		}
		return
	}
	if now := tell(p.b); !now.same(tell(p.m)) {
		t.Fatalf("%s: at %v: the book became %v, want %v", promise, numbers, now, tell(p.m))
	}
	*p = *newBoth()
}

func TestOrderOfErrorsOfDerive(t *testing.T) {
	p := newBoth()
	for _, env := range []int{-1, 0, 1, 4, 16} {
		for _, slot := range []int{-1, 0, 1, 2, 3, 4, 20, 48} {
			for _, to := range []int{-1, 0, 1, 2, 3, 5, 16} {
				for _, at := range []int{-2, -1, 0, 20, 47, 48} {
					for _, rights := range []int{-1, 0, 1, 2, 6, 8, 15, 16, 20} {
						p.ask(t, "P8.3", func(b book) (int, api.Errno) { return b.Derive(env, slot, to, at, rights) }, env, slot, to, at, rights)
					}
				}
			}
		}
	}
}

func TestOrderOfErrorsOfMint(t *testing.T) {
	p := newBoth()
	far := []int{math.MinInt, -1, 0, 1, 1<<62 - 1, 1 << 62, math.MaxInt}
	for _, env := range []int{-1, 0, 1, 2, 3, 4, 16} {
		for _, at := range []int{math.MinInt, -2, -1, 0, 20, 47, 48, math.MaxInt} {
			for _, kind := range []int{math.MinInt, -1, 0, 1, 2, 3, 4, math.MaxInt} {
				c := api.Cap{Kind: kind, Obj: 5, Serial: 5, Rights: 5}
				p.ask(t, "P8.2", func(b book) (int, api.Errno) { return b.Mint(env, at, c) }, env, at, c)
			}
			for _, n := range far {
				c := api.Cap{Kind: 1, Obj: n, Serial: 5, Rights: 5}
				p.ask(t, "P8.2", func(b book) (int, api.Errno) { return b.Mint(env, at, c) }, env, at, c)
				c = api.Cap{Kind: 2, Obj: 5, Serial: n, Rights: 5}
				p.ask(t, "P8.2", func(b book) (int, api.Errno) { return b.Mint(env, at, c) }, env, at, c)
			}
			for _, rights := range []int{math.MinInt, -1, 0, 8, 15, 16, math.MaxInt} {
				c := api.Cap{Kind: 3, Obj: 5, Serial: 5, Rights: rights}
				p.ask(t, "P8.2", func(b book) (int, api.Errno) { return b.Mint(env, at, c) }, env, at, c)
			}
		}
	}
}
