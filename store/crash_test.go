package store_test

import (
	"bytes"
	"fmt"
	"slices"
	"testing"

	"amber/api"
	"amber/store"
)

// step: one commit: so many bytes.
type step struct {
	n    int
	full bool
}

// told: what a store said or is to say.
type told struct {
	gen   int
	chain [][]byte
}

// behind: with one more commit.
func (c told) behind(image []byte, full bool) told {
	chain := c.chain
	if full {
		chain = nil
	}
	return told{c.gen + 1, append(slices.Clone(chain), image)}
}

func tellsAll(t *testing.T, what string, s *store.Store, want told) {
	t.Helper()
	l, code := s.Chain()
	if code != api.OK || s.Gen() != want.gen || !alike(l, want.chain) || len(s.Extents()) != len(l) {
		t.Fatalf("%s: Gen %d, %d images, %d; want %d, %d", what, s.Gen(), len(l), code, want.gen, len(want.chain))
	}
}

// done: a machine on which these were committed, one by one, with the home in extent 3.
func done(t *testing.T, steps []step) (machine, told) {
	t.Helper()
	m := newMachine()
	s := opened(t, "P16.2", m.k, 0, 3)
	var c told
	for i, x := range steps {
		is(t, "P16.2: Commit", s.Commit(picture(x.n, i), x.full), api.OK)
		c = c.behind(picture(x.n, i), x.full)
		tellsAll(t, "P16.4: on the spot", s, c)
		tellsAll(t, "P16.4: on a copy of the medium", opened(t, "P16.4", over(t, m.d.Medium(), 1).k, 0, 3), c)
	}
	return m, c
}

// keeps: all sets of up to five writes; of more some.
func keeps(writes int) [][]bool {
	var l [][]bool
	if writes <= 5 {
		for set := range 1 << writes {
			keep := make([]bool, writes)
			for i := range keep {
				keep[i] = set>>i&1 == 1
			}
			l = append(l, keep)
		}
		return l
	}
	d := dice(writes)
	every := make([]bool, writes)
	for i := range every {
		every[i] = true
	}
	return append(l, nil, every, d.flips(writes), d.flips(writes), every[:writes-1])
}

var histories = [][]step{
	nil,
	{{1, true}},
	{{300, true}, {1, false}},
	{{300, true}, {5000, true}},
	{{5000, true}, {129, false}, {1, true}},
	{{1, true}, {2, false}, {3, false}, {4, false}, {5, false}},
	{{9000, true}, {2, false}, {4097, true}, {4, false}, {5, true}, {600, false}},
}

// TestCrashes: at every act of a Commit, with all sets of the writes that wait.
func TestCrashes(t *testing.T) {
	for h, steps := range histories {
		base, c := done(t, steps)
		medium := base.d.Medium()
		for _, x := range []step{{1, true}, {1, false}, {128, false}, {600, true}, {513, false}, {4300, true}} {
			if !x.full && (len(c.chain) == 0 || len(c.chain) == 5) {
				continue
			}
			acts := (x.n+127)/128 + 3
			for at := range acts + 1 {
				writes := min(at, acts-3)
				if at >= acts-2 {
					writes = at - (acts - 2) // behind the first flush only the superblock's
				}
				for _, keep := range keeps(writes) {
					crashes(t, fmt.Sprintf("history %d, %v, armed with %d, %v kept", h, x, at, keep), over(t, medium, 500), c, x, at, keep)
				}
			}
		}
	}
}

// crashes: a Commit behind the chain c goes down; what is found then is c or the new chain, and it is known which.
func crashes(t *testing.T, what string, m machine, c told, x step, at int, keep []bool) {
	t.Helper()
	s := opened(t, "P16.2: "+what, m.k, 0, 3)
	tellsAll(t, "P16.2: "+what+", ahead of it", s, c)
	m.d.Arm(at)
	image := picture(x.n, 77)
	code := s.Commit(image, x.full)
	acts := (x.n+127)/128 + 3
	if (code == api.OK) != (at == acts) || code != api.OK && code != api.ErrDown {
		t.Fatalf("P16.2: %s: %d", what, code)
	}
	if code == api.OK || at == acts-1 && keep[0] {
		c = c.behind(image, x.full)
	}
	m = m.rebooted(keep)
	for i := range 3 { // opening again tells the same
		before := m.d.Medium()
		acts := m.d.Acts()
		s = opened(t, "P16.2: "+what, m.k, 0, 3)
		tellsAll(t, "P16.2: "+what, s, c)
		if i == 1 {
			is(t, "P16.3: Close", s.Close(), api.OK)
		} else {
			m = m.rebooted([]bool{true})
		}
		if !bytes.Equal(m.d.Medium(), before) || m.d.Acts() != acts || len(m.d.Pending()) > 0 {
			t.Fatalf("P16.3: %s: opening changed the disk", what)
		}
	}
}

// TestOpeningChangesNothing: closed or crashed, opened by another environment, in another kernel.
func TestOpeningChangesNothing(t *testing.T) {
	for h, steps := range histories {
		m, c := done(t, steps)
		m = m.rebooted(nil)
		medium, acts := m.d.Medium(), m.d.Acts()
		for i := range 12 {
			env := i % 2
			if env == 1 && len(m.k.State().Envs) == 1 {
				do(t, m.k, 0, api.CallSpawn, 0, 0, 20)
			}
			s := opened(t, "P16.3", m.k, env, 3)
			tellsAll(t, fmt.Sprintf("P16.3: history %d, opened %d times", h, i), s, c)
			switch i % 3 {
			case 0, 1:
				is(t, "P16.3: Close", s.Close(), api.OK)
			default:
				m = m.rebooted([]bool{true, true})
			}
			if !bytes.Equal(m.d.Medium(), medium) || m.d.Acts() != acts || len(m.d.Pending()) > 0 {
				t.Fatalf("P16.3: history %d, opened %d times: the disk is another", h, i)
			}
		}
	}
}

// neighbour: another environment's writes, on extents of its own, flushed or not.
func neighbour(t *testing.T, m machine, d *dice) {
	t.Helper()
	for range d.below(4) {
		slot := d.below(4)
		switch d.below(5) {
		case 0:
			m.k.Call(1, request(api.NatClaim, -1))
		case 1:
			m.k.Call(1, request(api.CallDrop, slot))
		case 2:
			m.k.Call(1, request(api.NatFlush))
		default:
			m.k.Call(1, api.Request{Call: api.NatWrite, A: [6]int{slot, d.below(32)}, Data: all(128, byte(d.below(256)))})
		}
	}
}

// onStore: whether an unflushed write waits on an extent of the store's.
func onStore(m machine, s *store.Store) bool {
	mine := slices.Concat(append(s.Extents(), []int{3})...)
	return slices.ContainsFunc(m.d.Pending(), func(sector int) bool { return slices.Contains(mine, sector/32) })
}

// TestLongLives: commits, crashes at any act, openings, through many generations, beside a neighbour who writes to extents of its own and now and then has those that the store gave back.
func TestLongLives(t *testing.T) {
	found, lost, kept := 0, 0, 0
	for seed := range 40 {
		d := dice(seed)
		m := newMachine()
		var c told
		for round := range 60 {
			what := fmt.Sprintf("seed %d, round %d", seed, round)
			s := opened(t, "P16.2: "+what, m.k, 0, 3)
			tellsAll(t, "P16.2: "+what, s, c)
			if onStore(m, s) {
				t.Fatalf("%s: not this test's business", what)
			}
			do(t, m.k, 0, api.CallSpawn, 0, 0, 6)
			down := false
			for i := 0; i < d.below(5) && !down; i++ {
				neighbour(t, m, &d)
				image := picture(d.of(1, 100, 300, 4097, 9000), d.below(250))
				full := len(c.chain) == 0 || len(c.chain) == 5 || d.below(3) == 0
				if d.below(3) == 0 {
					m.d.Arm(d.below((len(image)+127)/128 + 3))
				}
				code := s.Commit(image, full)
				down = code == api.ErrDown
				next := c.behind(image, full)
				switch {
				case code == api.OK:
					c = next
					tellsAll(t, "P16.4: "+what, opened(t, "P16.4: "+what, over(t, m.d.Medium(), 1).k, 0, 3), c)
				case !down:
					t.Fatalf("P16.2: %s: Commit: %d", what, code)
				default:
					m = m.rebooted(d.flips(len(m.d.Pending())))
					switch s := opened(t, "P16.2: "+what, m.k, 0, 3); s.Gen() {
					case next.gen:
						c = next
						found++
					case c.gen:
						lost++
					}
				}
			}
			if !down {
				neighbour(t, m, &d)
				kept++
			}
			m = m.rebooted(d.flips(len(m.d.Pending())))
		}
	}
	if found < 5 || lost < 100 || kept < 500 {
		t.Errorf("P16.2: %d found, %d lost, %d went on", found, lost, kept)
	}
}
