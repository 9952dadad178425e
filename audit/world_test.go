package audit_test

import (
	"slices"
	"testing"

	"amber/api"
	"amber/audit"
	"amber/disk"
	"amber/gate"
)

// What the tests share: dice, kernels, states, and calls that are held against what they must answer.

// dice: numbers by a fixed rule, so that each run of the test is the same.
type dice uint64

func (d *dice) below(n int) int {
	*d = *d*6364136223846793005 + 1442695040888963407
	return int(uint64(*d)>>33) % n
}

func (d *dice) of(l ...int) int { return l[d.below(len(l))] }

func (d *dice) one(n int) bool { return d.below(n) == 0 }

func request(call int, a ...int) api.Request {
	r := api.Request{Call: call}
	copy(r.A[:], a)
	return r
}

// do makes a call that must be done; its V0.
func do(t *testing.T, k *gate.Kernel, env, call int, a ...int) int {
	t.Helper()
	got := k.Call(env, request(call, a...))
	if got.Code != api.OK {
		t.Fatalf("%d: %s %v: %d", env, gate.Name(call), a, got.Code)
	}
	return got.V[0]
}

// example: the kernel of the chapter's second example. Environment 0: a frame in slot 0, a copy of it to be read in slot 1, environment 1 in slot 2, which has the frame in its slot 0.
func example(t *testing.T) *gate.Kernel {
	t.Helper()
	k := gate.Boot(disk.New(), 1)
	do(t, k, 0, api.CallAlloc)
	do(t, k, 0, api.CallDerive, 0, 5)
	do(t, k, 0, api.CallSpawn, 8, 2, 4)
	do(t, k, 0, api.CallGrant, 0, 2, 3)
	return k
}

// full: example's state with a page, an extent and a mark beside it, so that every list has a record: environment 1's page 5 leads to its slot 0, extent 6 lies in slot 3 of environment 0.
func full(t *testing.T) api.State {
	t.Helper()
	k := example(t)
	do(t, k, 1, api.CallMap, 5, 0, 1)
	do(t, k, 0, api.NatClaim, 6)
	do(t, k, 0, api.NatClean, -1, 0, 0)
	return k.State()
}

// cloned: nothing of it is shared with s.
func cloned(s api.State) api.State {
	s.Envs, s.Caps, s.Maps = slices.Clone(s.Envs), slices.Clone(s.Caps), slices.Clone(s.Maps)
	s.Frames, s.Extents = slices.Clone(s.Frames), slices.Clone(s.Extents)
	return s
}

// rules: broken rules, three numbers each.
func rules(n ...int) []api.Broken {
	var l []api.Broken
	for i := 0; i < len(n); i += 3 {
		l = append(l, api.Broken{Rule: n[i], A: n[i+1], B: n[i+2]})
	}
	return l
}

func checks(t *testing.T, what string, s api.State, want []api.Broken) {
	t.Helper()
	before := cloned(s)
	if got := audit.Check(s); !slices.Equal(got, want) {
		t.Errorf("P19.1: %s: Check tells %v, want %v", what, got, want)
	}
	untouched(t, what, s, before)
}

func paid(t *testing.T, what string, s api.State, env int, want api.Quota, code api.Errno) {
	t.Helper()
	if got, e := audit.Paid(s, env); got != want || e != code {
		t.Errorf("P19.1: %s: Paid(%d) = %v, %d, want %v, %d", what, env, got, e, want, code)
	}
}

func below(t *testing.T, what string, s api.State, env, slot int, want []api.Place, code api.Errno) {
	t.Helper()
	if got, e := audit.Below(s, env, slot); !slices.Equal(got, want) || e != code {
		t.Errorf("P19.1: %s: Below(%d, %d) = %v, %d, want %v, %d", what, env, slot, got, e, want, code)
	}
}

func reach(t *testing.T, what string, s api.State, root int, want []api.Cap, code api.Errno) {
	t.Helper()
	if got, e := audit.Reach(s, root); !slices.Equal(got, want) || e != code {
		t.Errorf("P19.1: %s: Reach(%d) = %v, %d, want %v, %d", what, root, got, e, want, code)
	}
}

func apart(t *testing.T, what string, a, b api.State, roots []int, want []api.Broken) {
	t.Helper()
	x, y, r := cloned(a), cloned(b), slices.Clone(roots)
	if got := audit.Apart(a, b, roots); !slices.Equal(got, want) {
		t.Errorf("P19.1: %s: Apart(%v) tells %v, want %v", what, roots, got, want)
	}
	untouched(t, what, a, x)
	untouched(t, what, b, y)
	if !slices.Equal(roots, r) {
		t.Errorf("P19.1: %s: roots became %v", what, roots)
	}
}

func untouched(t *testing.T, what string, s, before api.State) {
	t.Helper()
	same := s.Serial == before.Serial && slices.Equal(s.Envs, before.Envs) && slices.Equal(s.Caps, before.Caps) && slices.Equal(s.Maps, before.Maps) && slices.Equal(s.Frames, before.Frames) && slices.Equal(s.Extents, before.Extents)
	if !same {
		t.Errorf("P19.1: %s: the state that was handed in is changed: %+v, it was %+v", what, s, before)
	}
}

// places: two numbers each.
func places(n ...int) []api.Place {
	var l []api.Place
	for i := 0; i < len(n); i += 2 {
		l = append(l, api.Place{Env: n[i], Slot: n[i+1]})
	}
	return l
}
