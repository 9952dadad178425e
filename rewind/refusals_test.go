package rewind_test

import (
	"math"
	"testing"

	"amber/api"
	"amber/rewind"
)

// What the tests share of calls that are refused: each changes nothing, of the machine, its store and the trip.

// refusesStart: a Start that must be refused, and change nothing.
func (m machine) refusesStart(t *testing.T, what string, env, slot int, want api.Errno) {
	t.Helper()
	before := m.shape()
	if x, code := rewind.Start(m.k, m.s, env, slot); x != nil || code != want {
		t.Errorf("P25.1: %s: Start(%d, %d) = %v, %d, want %d", what, env, slot, x, code, want)
	}
	m.unchanged(t, "P25.1: Start is refused: "+what, before, 0)
}

// refuses: a call that must be refused, and change nothing but that it takes so many serials.
func (m machine) refuses(t *testing.T, what string, x *rewind.Trip, call func() api.Errno, want api.Errno, serials int) {
	t.Helper()
	before, at := m.shape(), postOf(x)
	if code := call(); code != want {
		t.Errorf("%s: the answer is %d, want %d", what, code, want)
	}
	m.unchanged(t, what, before, serials)
	if now := postOf(x); now != at {
		t.Errorf("%s: the trip is at %v, not %v", what, now, at)
	}
}

func (m machine) refusesGo(t *testing.T, what string, x *rewind.Trip, p []api.Pick, answers []uint32, want api.Errno) {
	t.Helper()
	m.refuses(t, what+": Go", x, func() api.Errno {
		l, code := x.Go(p, answers)
		if len(l) > 0 {
			t.Errorf("%s: Go tells %d events beside %d", what, len(l), code)
		}
		return code
	}, want, 0)
}

func (m machine) refusesBack(t *testing.T, what string, x *rewind.Trip, n int, want api.Errno, serials int) {
	t.Helper()
	m.refuses(t, what+": Back", x, func() api.Errno { return x.Back(n) }, want, serials)
}

func (m machine) refusesForth(t *testing.T, what string, x *rewind.Trip, n int, want api.Errno, serials int) {
	t.Helper()
	m.refuses(t, what+": Forth", x, func() api.Errno {
		l, code := x.Forth(n)
		if len(l) > 0 {
			t.Errorf("%s: Forth tells %d events beside %d", what, len(l), code)
		}
		return code
	}, want, serials)
}

func (m machine) refusesFind(t *testing.T, what string, x *rewind.Trip, w api.Watch, want api.Errno, serials int) {
	t.Helper()
	m.refuses(t, what+": Find", x, func() api.Errno {
		n, code := x.Find(w)
		if n != -1 {
			t.Errorf("%s: Find(%+v) tells %d beside %d", what, w, n, code)
		}
		return code
	}, want, serials)
}

// refusesAll: none of the four calls is done; numbers that may not be are told ahead of that, picks behind it.
func (m machine) refusesAll(t *testing.T, what string, x *rewind.Trip, want api.Errno) {
	t.Helper()
	behind, all := x.At()
	m.refusesGo(t, what, x, picks(0, 1), nil, want)
	m.refusesGo(t, what, x, picks(0, 4097), nil, want)
	m.refusesGo(t, what, x, make([]api.Pick, 9999), nil, want)
	for _, n := range []int{0, behind} {
		m.refusesBack(t, what, x, n, want, 0)
	}
	for _, n := range []int{-1, behind + 1, math.MaxInt, math.MinInt} {
		m.refusesBack(t, what, x, n, api.ErrArg, 0)
	}
	for _, n := range []int{0, all - behind} {
		m.refusesForth(t, what, x, n, want, 0)
	}
	for _, n := range []int{-1, all - behind + 1, math.MaxInt, math.MinInt} {
		m.refusesForth(t, what, x, n, api.ErrArg, 0)
	}
	m.refusesFind(t, what, x, api.Watch{On: 1}, want, 0)
	m.refusesFind(t, what, x, api.Watch{On: 2, Reg: 7, K: -5}, want, 0)
	m.refusesFind(t, what, x, api.Watch{On: 2, Reg: -1}, api.ErrArg, 0)
	m.refusesFind(t, what, x, api.Watch{}, api.ErrArg, 0)
}
