package env_test

import (
	"math"
	"slices"
	"testing"

	"amber/api"
	"amber/env"
)

func quota(frames, envs, extents int) api.Quota {
	return api.Quota{Frames: frames, Envs: envs, Extents: extents}
}

func create(t *testing.T, a *env.Table, parent, serial int, q api.Quota, want int, code api.Errno) {
	t.Helper()
	if e, got := a.Create(parent, serial, q); e != want || got != code {
		t.Errorf("P9.1: Create(%d, %d, %v) = %d, %d, want %d, %d", parent, serial, q, e, got, want, code)
	}
}

func left(t *testing.T, a *env.Table, e int, want api.Quota) {
	t.Helper()
	if x := info(t, a, e); x.Left != want {
		t.Errorf("P9.2: Left of %d is %v, want %v", e, x.Left, want)
	}
}

func info(t *testing.T, a *env.Table, e int) api.Env {
	t.Helper()
	x, code := a.Info(e)
	if code != api.OK {
		t.Errorf("P9.1: Info(%d) = %v, %d, want OK", e, x, code)
	}
	return x
}

func codes(t *testing.T, name string, got, want api.Errno) {
	t.Helper()
	if got != want {
		t.Errorf("P9.1: %s = %d, want %d", name, got, want)
	}
}

func list(t *testing.T, name string, got []int, code api.Errno, want ...int) {
	t.Helper()
	if code != api.OK || !slices.Equal(got, want) {
		t.Errorf("P9.3: %s = %v, %d, want %v, OK", name, got, code, want)
	}
}

func runs(t *testing.T, a *env.Table, want ...bool) {
	t.Helper()
	for e, w := range want {
		if got := a.Runs(e); got != w {
			t.Errorf("P9.5: Runs(%d) = %v, want %v", e, got, w)
		}
	}
}

// chain: environments 0 to 15, each the child of the one before, each with all that may be left, all Ready.
func chain(t *testing.T) *env.Table {
	t.Helper()
	a := env.New(1, quota(64, 15, 32))
	for e := 1; e < 16; e++ {
		create(t, a, e-1, e+1, quota(64-e, 15-e, 32-e), e, api.OK)
	}
	for e := range 16 {
		a.SetState(e, api.Ready, 0)
	}
	return a
}

func TestExamplesOneToThree(t *testing.T) {
	a := env.New(1, quota(64, 15, 32))
	if x := info(t, a, 0); x != (api.Env{Serial: 1, Parent: -1, Quota: quota(64, 15, 32), Left: quota(64, 15, 32)}) {
		t.Errorf("P9.1: Info(0) of a new table = %v", x)
	}
	create(t, a, 0, 2, quota(20, 3, 4), 1, api.OK)
	left(t, a, 0, quota(44, 11, 28))
	create(t, a, 1, 3, quota(5, 0, 0), 2, api.OK)
	left(t, a, 1, quota(15, 2, 4))
	create(t, a, 0, 4, quota(0, 0, 0), 3, api.OK)
	left(t, a, 0, quota(44, 10, 28))
	create(t, a, 1, 5, quota(1, 1, 0), 4, api.OK)
	left(t, a, 1, quota(14, 0, 4))
	l, code := a.Tree(0)
	list(t, "Tree(0)", l, code, 0, 1, 2, 4, 3)
	create(t, a, 1, 6, quota(0, 0, 0), -1, api.ErrNoSpace)
	create(t, a, 4, 6, quota(0, 1, 0), -1, api.ErrNoSpace)
	create(t, a, 4, 6, quota(1, 0, 0), 5, api.OK)

	l, code = a.Destroy(2)
	list(t, "Destroy(2)", l, code, 2)
	left(t, a, 1, quota(19, 1, 4))
	create(t, a, 1, 7, quota(0, 0, 0), 2, api.OK)
	l, code = a.Children(1)
	list(t, "Children(1)", l, code, 4, 2)
	l, code = a.Tree(1)
	list(t, "Tree(1)", l, code, 1, 4, 5, 2)
	l, code = a.Destroy(1)
	list(t, "Destroy(1)", l, code, 1, 4, 5, 2)
	left(t, a, 0, quota(64, 14, 32))
	list(t, "Live()", a.Live(), api.OK, 0, 3)
	if n, m := a.Find(7), a.Find(4); n != -1 || m != 3 {
		t.Errorf("P9.1: Find(7), Find(4) = %d, %d, want -1, 3", n, m)
	}

	create(t, a, 0, 7, quota(0, 0, 0), -1, api.ErrArg)
	create(t, a, 9, 7, quota(-1, 0, 0), -1, api.ErrEnv)
	if l, code := a.Destroy(0); l != nil || code != api.ErrSelf {
		t.Errorf("P9.1: Destroy(0) = %v, %d, want nil, ErrSelf", l, code)
	}
	if l, code := a.Destroy(1); l != nil || code != api.ErrEnv {
		t.Errorf("P9.1: Destroy(1) = %v, %d, want nil, ErrEnv", l, code)
	}
}

func TestExampleFour(t *testing.T) {
	a := env.New(1, quota(2, 0, 0))
	codes(t, "Pay(0, {2 0 0})", a.Pay(0, quota(2, 0, 0)), api.OK)
	codes(t, "Pay(0, {1 0 0})", a.Pay(0, quota(1, 0, 0)), api.ErrNoSpace)
	codes(t, "Refund(0, {1 0 0})", a.Refund(0, quota(1, 0, 0)), api.OK)
	codes(t, "Refund(0, {2 0 0})", a.Refund(0, quota(2, 0, 0)), api.ErrArg)
	codes(t, "Refund(0, {0 0 1})", a.Refund(0, quota(0, 0, 1)), api.ErrArg)
	codes(t, "Pay(0, {-1 5 0})", a.Pay(0, quota(-1, 5, 0)), api.ErrArg)
	left(t, a, 0, quota(1, 0, 0))
}

func TestExampleFive(t *testing.T) {
	a := env.New(1, quota(0, 2, 0))
	create(t, a, 0, 2, quota(0, 1, 0), 1, api.OK)
	create(t, a, 1, 3, quota(0, 0, 0), 2, api.OK)
	for e := range 3 {
		codes(t, "SetState to Ready", a.SetState(e, api.Ready, 0), api.OK)
	}
	runs(t, a, true, true, true)
	codes(t, "Freeze(1, true)", a.Freeze(1, true), api.OK)
	runs(t, a, true, false, false)
	codes(t, "Freeze(2, true)", a.Freeze(2, true), api.OK)
	codes(t, "Freeze(1, false)", a.Freeze(1, false), api.OK)
	runs(t, a, true, true, false)
}

func TestExampleSix(t *testing.T) {
	a := env.New(5, quota(-3, 99, 1))
	if x := info(t, a, 0); x.Quota != quota(0, 99, 1) || x.Left != x.Quota {
		t.Errorf("P9.1: Quota %v, Left %v, want {0 99 1}", x.Quota, x.Left)
	}
	create(t, a, 0, 5, quota(0, 0, 0), -1, api.ErrArg)
	create(t, a, 0, 6, quota(0, 0, 0), 1, api.OK)
}

func TestExampleSeven(t *testing.T) {
	a := env.New(1, quota(0, 0, 0))
	told := func(state, bits int, r0, r1 uint32) {
		t.Helper()
		want := api.Regs{R: [8]uint32{r0, r1, 7, 7, 7, 7, 7, 7}, PC: 9}
		if x := info(t, a, 0); x.State != state || x.Bits != bits || x.Regs != want || x.Code != 0 {
			t.Errorf("P9.1: Info(0) = %v, want state %d, bits %d, registers %v", x, state, bits, want)
		}
	}
	wait := func(want int) {
		t.Helper()
		if n, code := a.Wait(0); n != want || code != api.OK {
			t.Errorf("P9.1: Wait(0) = %d, %d, want %d, OK", n, code, want)
		}
	}
	a.SetRegs(0, api.Regs{R: [8]uint32{7, 7, 7, 7, 7, 7, 7, 7}, PC: 9})
	codes(t, "Notify(0, 4)", a.Notify(0, 4), api.OK)
	codes(t, "Notify(0, 1)", a.Notify(0, 1), api.OK)
	told(api.Idle, 5, 7, 7)
	wait(5)
	told(api.Idle, 0, 7, 7)
	wait(0)
	told(api.Waiting, 0, 7, 7)
	codes(t, "Notify(0, 0)", a.Notify(0, 0), api.OK)
	told(api.Waiting, 0, 7, 7)
	codes(t, "Notify(0, 8)", a.Notify(0, 8), api.OK)
	told(api.Ready, 0, 0, 8)
	codes(t, "SetBits(0, 3)", a.SetBits(0, 3), api.OK)
	codes(t, "SetState(0, Waiting, 0)", a.SetState(0, api.Waiting, 0), api.OK)
	told(api.Waiting, 3, 0, 8)
	codes(t, "Notify(0, 0)", a.Notify(0, 0), api.OK)
	told(api.Ready, 0, 0, 3)
}

// refusesAll asks every call for a number that no environment has, at arguments that may not be.
func refusesAll(t *testing.T, a *env.Table, e int) {
	t.Helper()
	bad := quota(-1, -1, -1)
	create(t, a, e, -1, bad, -1, api.ErrEnv)
	if l, code := a.Destroy(e); l != nil || code != api.ErrEnv {
		t.Errorf("P9.1: Destroy(%d) = %v, %d, want nil, ErrEnv", e, l, code)
	}
	if x, code := a.Info(e); x != (api.Env{}) || code != api.ErrEnv {
		t.Errorf("P9.1: Info(%d) = %v, %d, want nothing, ErrEnv", e, x, code)
	}
	codes(t, "SetRegs", a.SetRegs(e, api.Regs{PC: 1}), api.ErrEnv)
	codes(t, "SetState", a.SetState(e, 5, -1), api.ErrEnv)
	codes(t, "SetBits", a.SetBits(e, -1), api.ErrEnv)
	codes(t, "Notify", a.Notify(e, -1), api.ErrEnv)
	if n, code := a.Wait(e); n != 0 || code != api.ErrEnv {
		t.Errorf("P9.1: Wait(%d) = %d, %d, want 0, ErrEnv", e, n, code)
	}
	codes(t, "Freeze", a.Freeze(e, true), api.ErrEnv)
	codes(t, "Pay", a.Pay(e, bad), api.ErrEnv)
	codes(t, "Refund", a.Refund(e, bad), api.ErrEnv)
	if l, code := a.Children(e); l != nil || code != api.ErrEnv {
		t.Errorf("P9.1: Children(%d) = %v, %d, want nil, ErrEnv", e, l, code)
	}
	if l, code := a.Tree(e); l != nil || code != api.ErrEnv {
		t.Errorf("P9.1: Tree(%d) = %v, %d, want nil, ErrEnv", e, l, code)
	}
	if a.Inside(e, e) || a.Inside(e, 0) || a.Inside(0, e) || a.Runs(e) {
		t.Errorf("P9.1: %d is inside or runs, and does not live", e)
	}
}

func TestNumbersThatNoneHas(t *testing.T) {
	far := []int{math.MinInt, -1 << 32, -17, -1, 16, 17, 1 << 32, math.MaxInt}
	a := env.New(1, quota(9, 15, 9))
	before := tell(a)
	for _, e := range append(far, 1, 2, 15) {
		refusesAll(t, a, e)
	}
	if now := tell(a); now != before {
		t.Errorf("P9.1: what was refused made the table %v, want %v", now, before)
	}
	full := chain(t)
	for _, e := range far {
		refusesAll(t, full, e)
	}
	full.Destroy(7)
	for e := 7; e < 16; e++ {
		refusesAll(t, full, e)
	}
	list(t, "Live()", full.Live(), api.OK, 0, 1, 2, 3, 4, 5, 6)
}

func TestNewTakesEverySerial(t *testing.T) {
	for _, serial := range []int{math.MinInt, -5, -1, 0, 1, 1 << 61, 1<<62 - 2, 1<<62 - 1, 1 << 62, math.MaxInt} {
		a := env.New(serial, quota(0, 1, 0))
		if x := info(t, a, 0); x != (api.Env{Serial: serial, Parent: -1, Quota: quota(0, 1, 0), Left: quota(0, 1, 0)}) {
			t.Errorf("P9.1: Info(0) of New(%d) = %v", serial, x)
		}
		if n := a.Find(serial); n != 0 {
			t.Errorf("P9.1: Find(%d) = %d, want 0", serial, n)
		}
		create(t, a, 0, serial, quota(0, 0, 0), -1, api.ErrArg)
		if serial < 1<<62-1 {
			create(t, a, 0, serial+1, quota(0, 0, 0), 1, api.OK)
		} else {
			create(t, a, 0, 1<<62-1, quota(0, 0, 0), -1, api.ErrArg)
			create(t, a, 0, math.MaxInt, quota(0, 0, 0), -1, api.ErrArg)
		}
	}
}

func TestNewBoundsItsQuota(t *testing.T) {
	for _, c := range []struct{ given, want int }{{math.MinInt, 0}, {-1, 0}, {0, 0}, {1, 1}, {1<<62 - 1, 1<<62 - 1}, {1 << 62, 1<<62 - 1}, {math.MaxInt, 1<<62 - 1}} {
		for part := range 3 {
			given, want := parts{3, 4, 5}, parts{3, 4, 5}
			given[part], want[part] = c.given, c.want
			if x := info(t, env.New(1, given.quota()), 0); x.Quota != want.quota() || x.Left != x.Quota {
				t.Errorf("P9.1: New(1, %v): Quota %v, Left %v, want %v", given, x.Quota, x.Left, want)
			}
		}
	}
}

func TestGreatestQuotas(t *testing.T) {
	const most = 1<<62 - 1
	a := env.New(1, quota(most, most, most))
	create(t, a, 0, 2, quota(most, most, most), -1, api.ErrNoSpace)
	create(t, a, 0, 2, quota(most, most-1, most), 1, api.OK)
	left(t, a, 0, quota(0, 0, 0))
	codes(t, "Pay of all", a.Pay(1, quota(most, most-1, most)), api.OK)
	left(t, a, 1, quota(0, 0, 0))
	codes(t, "Pay of one more", a.Pay(1, quota(0, 1, 0)), api.ErrNoSpace)
	codes(t, "Refund of more", a.Refund(1, quota(most, most, most)), api.ErrArg)
	codes(t, "Refund of all", a.Refund(1, quota(most, most-1, most)), api.OK)
	left(t, a, 1, quota(most, most-1, most))
	a.Destroy(1)
	left(t, a, 0, quota(most, most, most))
}

func TestWhatAChildPaidGoesWithIt(t *testing.T) {
	a := env.New(1, quota(10, 10, 10))
	codes(t, "Pay", a.Pay(0, quota(1, 2, 3)), api.OK)
	create(t, a, 0, 2, quota(5, 4, 3), 1, api.OK)
	codes(t, "Pay", a.Pay(1, quota(5, 0, 1)), api.OK)
	create(t, a, 1, 3, quota(0, 2, 1), 2, api.OK)
	left(t, a, 0, quota(4, 3, 4))
	left(t, a, 1, quota(0, 1, 1))
	a.Destroy(1)
	left(t, a, 0, quota(9, 8, 7))
	codes(t, "Refund of more than was paid", a.Refund(0, quota(1, 3, 3)), api.ErrArg)
	codes(t, "Refund", a.Refund(0, quota(1, 2, 3)), api.OK)
	left(t, a, 0, quota(10, 10, 10))
	create(t, a, 0, 4, quota(5, 4, 3), 1, api.OK)
	codes(t, "Refund of what the one before paid", a.Refund(1, quota(1, 0, 0)), api.ErrArg)
	left(t, a, 1, quota(5, 4, 3))
}

func TestEveryPartMustBeLeft(t *testing.T) {
	a := env.New(1, quota(2, 3, 4))
	for _, q := range []api.Quota{quota(3, 0, 0), quota(0, 3, 0), quota(0, 0, 5)} {
		create(t, a, 0, 2, q, -1, api.ErrNoSpace)
	}
	create(t, a, 0, 2, quota(2, 2, 4), 1, api.OK)
	left(t, a, 0, quota(0, 0, 0))
	b := env.New(1, quota(2, 3, 4))
	for _, q := range []api.Quota{quota(3, 0, 0), quota(0, 4, 0), quota(0, 0, 5)} {
		codes(t, "Pay of more than is left", b.Pay(0, q), api.ErrNoSpace)
	}
	codes(t, "Pay of all", b.Pay(0, quota(2, 3, 4)), api.OK)
	create(t, b, 0, 2, quota(0, 0, 0), -1, api.ErrNoSpace)
}

func TestFullTableTakesNone(t *testing.T) {
	a := env.New(1, quota(0, 99, 0))
	for e := 1; e < 16; e++ {
		create(t, a, 0, e+1, quota(0, 0, 0), e, api.OK)
	}
	before := tell(a)
	create(t, a, 0, 17, quota(0, 0, 0), -1, api.ErrNoSpace)
	if now := tell(a); now != before {
		t.Errorf("P9.1: what was refused made the table %v, want %v", now, before)
	}
	for _, e := range []int{12, 3, 7} {
		a.Destroy(e)
	}
	create(t, a, 0, 17, quota(0, 0, 0), 3, api.OK)
	create(t, a, 0, 18, quota(0, 0, 0), 7, api.OK)
	create(t, a, 0, 19, quota(0, 0, 0), 12, api.OK)
	l, code := a.Children(0)
	list(t, "Children(0)", l, code, 1, 2, 4, 5, 6, 8, 9, 10, 11, 13, 14, 15, 3, 7, 12)
	l, code = a.Tree(0)
	list(t, "Tree(0)", l, code, 0, 1, 2, 4, 5, 6, 8, 9, 10, 11, 13, 14, 15, 3, 7, 12)
	list(t, "Live()", a.Live(), api.OK, 0, 1, 2, 3, 4, 5, 6, 7, 8, 9, 10, 11, 12, 13, 14, 15)
}

func TestSerialsAreNeverGivenAgain(t *testing.T) {
	a := env.New(1, quota(0, 15, 0))
	create(t, a, 0, 50, quota(0, 0, 0), 1, api.OK)
	a.Destroy(1)
	for _, serial := range []int{math.MinInt, 0, 1, 2, 49, 50} {
		create(t, a, 0, serial, quota(0, 0, 0), -1, api.ErrArg)
	}
	create(t, a, 0, 60, quota(0, 99, 0), -1, api.ErrNoSpace)
	create(t, a, 0, 51, quota(0, 0, 0), 1, api.OK)
	create(t, a, 0, 1<<62-1, quota(0, 0, 0), 2, api.OK)
	create(t, a, 0, 1<<62, quota(0, 0, 0), -1, api.ErrArg)
}

func TestDeepestTree(t *testing.T) {
	a := chain(t)
	create(t, a, 15, 99, quota(0, 0, 0), -1, api.ErrNoSpace)
	for root := range 16 {
		for e := range 16 {
			if got := a.Inside(root, e); got != (root <= e) {
				t.Errorf("P9.3: Inside(%d, %d) = %v", root, e, got)
			}
		}
		tree, code := a.Tree(root)
		want := []int{0, 1, 2, 3, 4, 5, 6, 7, 8, 9, 10, 11, 12, 13, 14, 15}[root:]
		list(t, "Tree", tree, code, want...)
		a.Freeze(root, true)
		for e := range 16 {
			if got := a.Runs(e); got != (e < root) {
				t.Errorf("P9.5: with %d frozen Runs(%d) = %v", root, e, got)
			}
		}
		a.Freeze(root, false)
	}
	ended, code := a.Destroy(1)
	list(t, "Destroy(1)", ended, code, 1, 2, 3, 4, 5, 6, 7, 8, 9, 10, 11, 12, 13, 14, 15)
	left(t, a, 0, quota(64, 15, 32))
	if !a.Runs(0) {
		t.Errorf("P9.3: 0 does not run behind the end of 1")
	}
}

func TestOnlyReadyRuns(t *testing.T) {
	a := env.New(1, quota(0, 1, 0))
	create(t, a, 0, 2, quota(0, 0, 0), 1, api.OK)
	for above := range 5 {
		for state := range 5 {
			a.SetState(0, above, 0)
			a.SetState(1, state, 0)
			runs(t, a, above == 1, state == 1)
		}
	}
	a.SetState(1, api.Ready, 0)
	a.Freeze(1, true)
	if x := info(t, a, 0); x.Frozen {
		t.Errorf("P9.5: the parent of a frozen one is flagged")
	}
	if x := info(t, a, 1); !x.Frozen || x.State != api.Ready {
		t.Errorf("P9.5: frozen: %v, want the flag, and Ready", x)
	}
	a.Destroy(1)
	create(t, a, 0, 3, quota(0, 0, 0), 1, api.OK)
	if x := info(t, a, 1); x != (api.Env{Serial: 3}) {
		t.Errorf("P9.1: a new environment at a number used before: %v", x)
	}
}

func TestEdgesOfWordsAndStates(t *testing.T) {
	a := env.New(1, quota(0, 0, 0))
	good := func(n, most int) api.Errno {
		if n < 0 || n > most {
			return api.ErrArg
		}
		return api.OK
	}
	for _, n := range []int{math.MinInt, -1 << 32, -1, 0, 1, 4, 5, 6, 1<<31 - 1, 1 << 31, 1<<32 - 1, 1 << 32, 1<<62 - 1, math.MaxInt} {
		codes(t, "SetState with a code", a.SetState(0, 3, n), good(n, 1<<32-1))
		codes(t, "SetState", a.SetState(0, n, 7), good(n, 4))
		codes(t, "SetBits", a.SetBits(0, n), good(n, 1<<32-1))
		codes(t, "Notify", a.Notify(0, n), good(n, 1<<32-1))
	}
	a.SetState(0, 3, 1<<32-1)
	a.SetBits(0, 1<<32-1)
	before := info(t, a, 0)
	if before.State != 3 || before.Code != 1<<32-1 || before.Bits != 1<<32-1 {
		t.Errorf("P9.1: Info(0) = %v, want 3 with code and bits 4294967295", before)
	}
	for _, n := range []int{-1, 1 << 32} {
		a.SetState(0, 1, n)
		a.SetBits(0, n)
		a.Notify(0, n)
	}
	a.SetState(0, 5, 0)
	if x := info(t, a, 0); x != before {
		t.Errorf("P9.1: what was refused made it %v, want %v", x, before)
	}
}

func TestNoticesInEveryState(t *testing.T) {
	regs := api.Regs{R: [8]uint32{1, 2, 3, 4, 5, 6, 7, 8}, PC: 9}
	for state := range 5 {
		for _, kept := range []int{0, 5, 1<<32 - 1} {
			for _, bits := range []int{0, 6, 1<<32 - 1} {
				a := env.New(1, quota(0, 0, 0))
				a.SetRegs(0, regs)
				a.SetState(0, state, 77)
				a.SetBits(0, kept)
				a.Freeze(0, true)
				a.Notify(0, bits)
				want := api.Env{Serial: 1, Parent: -1, State: state, Code: 77, Bits: kept | bits, Frozen: true, Regs: regs}
				if state == 2 && kept|bits != 0 {
					want.State, want.Bits = 1, 0
					want.Regs.R[0], want.Regs.R[1] = 0, uint32(kept|bits)
				}
				if x := info(t, a, 0); x != want {
					t.Errorf("P9.1: Notify(0, %d) in state %d with bits %d: %v, want %v", bits, state, kept, x, want)
				}
			}
		}
	}
}

func TestWaitInEveryState(t *testing.T) {
	regs := api.Regs{R: [8]uint32{1, 2, 3, 4, 5, 6, 7, 8}, PC: 9}
	for state := range 5 {
		for _, kept := range []int{0, 1, 1<<32 - 1} {
			a := env.New(1, quota(0, 0, 0))
			a.SetRegs(0, regs)
			a.SetState(0, state, 77)
			a.SetBits(0, kept)
			if n, code := a.Wait(0); n != kept || code != api.OK {
				t.Errorf("P9.1: Wait in state %d with bits %d = %d, %d", state, kept, n, code)
			}
			want := api.Env{Serial: 1, Parent: -1, State: state, Code: 77, Regs: regs}
			if kept == 0 {
				want.State = 2
			}
			if x := info(t, a, 0); x != want {
				t.Errorf("P9.1: behind Wait in state %d with bits %d: %v, want %v", state, kept, x, want)
			}
		}
	}
}

func TestFindTellsTheLivingAlone(t *testing.T) {
	a := env.New(7, quota(0, 15, 0))
	create(t, a, 0, 9, quota(0, 3, 0), 1, api.OK)
	create(t, a, 1, 12, quota(0, 0, 0), 2, api.OK)
	for serial, want := range map[int]int{7: 0, 9: 1, 12: 2, 0: -1, -1: -1, 8: -1, 10: -1, math.MinInt: -1, math.MaxInt: -1} {
		if n := a.Find(serial); n != want {
			t.Errorf("P9.1: Find(%d) = %d, want %d", serial, n, want)
		}
	}
	a.Destroy(2)
	create(t, a, 0, 13, quota(0, 0, 0), 2, api.OK)
	if n, m := a.Find(12), a.Find(13); n != -1 || m != 2 {
		t.Errorf("P9.1: Find(12), Find(13) = %d, %d, want -1, 2", n, m)
	}
}

func TestAnswersAreNewMemory(t *testing.T) {
	a := chain(t)
	before := tell(a)
	spoil := func(l []int, _ api.Errno) {
		l = l[:cap(l)]
		for i := range l {
			l[i] = 13
		}
	}
	for e := range 16 {
		spoil(a.Children(e))
		spoil(a.Tree(e))
		spoil(a.Live(), api.OK)
	}
	if now := tell(a); now != before {
		t.Errorf("P9.1: answers that were written to changed the table to %v", now)
	}
	kept, _ := a.Tree(3)
	a.Destroy(3)
	list(t, "Tree(3) of before", kept, api.OK, 3, 4, 5, 6, 7, 8, 9, 10, 11, 12, 13, 14, 15)
}

func TestTablesAreApart(t *testing.T) {
	a, b := chain(t), chain(t)
	before := tell(b)
	a.SetBits(3, 9)
	a.Pay(3, quota(1, 0, 0))
	a.Freeze(1, true)
	a.Destroy(5)
	create(t, a, 0, 99, quota(0, 0, 0), -1, api.ErrNoSpace)
	create(t, a, 4, 99, quota(0, 0, 0), 5, api.OK)
	if now := tell(b); now != before {
		t.Errorf("P9.1: another table's calls changed this one to %v", now)
	}
	create(t, b, 0, 17, quota(0, 0, 0), -1, api.ErrNoSpace)
}
