package caps_test

import (
	"math"
	"slices"
	"testing"

	"amber/api"
	"amber/caps"
)

const (
	envs  = 16
	slots = 48
)

var none = api.Place{Env: -1, Slot: -1}

// frame: frame 5 of serial 7, with these rights.
func frame(rights int) api.Cap { return api.Cap{Kind: 1, Obj: 5, Serial: 7, Rights: rights} }

func held(env, slot int, c api.Cap) api.Held { return api.Held{Env: env, Slot: slot, Cap: c} }

func place(env, slot int) api.Place { return api.Place{Env: env, Slot: slot} }

// opened: a book with these lists open.
func opened(t *testing.T, lists ...int) *caps.Book {
	t.Helper()
	b := caps.New()
	for _, env := range lists {
		if code := b.Open(env); code != api.OK {
			t.Fatalf("P8.1: Open(%d) = %d, want OK", env, code)
		}
	}
	return b
}

func every(t *testing.T) *caps.Book {
	t.Helper()
	b := caps.New()
	for env := range envs {
		if code := b.Open(env); code != api.OK {
			t.Fatalf("P8.1: Open(%d) = %d, want OK", env, code)
		}
	}
	return b
}

func mint(t *testing.T, b *caps.Book, env, at int, c api.Cap, slot int, code api.Errno) {
	t.Helper()
	if s, e := b.Mint(env, at, c); s != slot || e != code {
		t.Errorf("P8.2: Mint(%d, %d, %v) = %d, %d, want %d, %d", env, at, c, s, e, slot, code)
	}
}

func derive(t *testing.T, b *caps.Book, env, slot, to, at, rights, want int, code api.Errno) {
	t.Helper()
	if s, e := b.Derive(env, slot, to, at, rights); s != want || e != code {
		t.Errorf("P8.3: Derive(%d, %d, %d, %d, %d) = %d, %d, want %d, %d", env, slot, to, at, rights, s, e, want, code)
	}
}

func drop(t *testing.T, b *caps.Book, env, slot int, want api.Cap, code api.Errno) {
	t.Helper()
	if c, e := b.Drop(env, slot); c != want || e != code {
		t.Errorf("P8.4: Drop(%d, %d) = %v, %d, want %v, %d", env, slot, c, e, want, code)
	}
}

func revoke(t *testing.T, promise string, b *caps.Book, env, slot int, want ...api.Held) {
	t.Helper()
	if l, e := b.Revoke(env, slot); e != api.OK || !slices.Equal(l, want) {
		t.Errorf("%s: Revoke(%d, %d) = %v, %d, want %v, OK", promise, env, slot, l, e, want)
	}
}

func purge(t *testing.T, b *caps.Book, kind, obj int, want ...api.Held) {
	t.Helper()
	if l := b.Purge(kind, obj); !slices.Equal(l, want) {
		t.Errorf("P8.5: Purge(%d, %d) = %v, want %v", kind, obj, l, want)
	}
}

func shut(t *testing.T, b *caps.Book, env int, want ...api.Held) {
	t.Helper()
	if l, e := b.Shut(env); e != api.OK || !slices.Equal(l, want) {
		t.Errorf("P8.6: Shut(%d) = %v, %d, want %v, OK", env, l, e, want)
	}
}

func from(t *testing.T, promise string, b *caps.Book, env, slot int, want api.Place) {
	t.Helper()
	if p, e := b.From(env, slot); p != want || e != api.OK {
		t.Errorf("%s: From(%d, %d) = %v, %d, want %v, OK", promise, env, slot, p, e, want)
	}
}

func up(t *testing.T, b *caps.Book, env, slot int, inside []int, want api.Place) {
	t.Helper()
	if p, e := b.Up(env, slot, inside); p != want || e != api.OK {
		t.Errorf("P8.7: Up(%d, %d, %v) = %v, %d, want %v, OK", env, slot, inside, p, e, want)
	}
}

func number(t *testing.T, name string, got, want int) {
	t.Helper()
	if got != want {
		t.Errorf("P8.8: %s = %d, want %d", name, got, want)
	}
}

func TestExamplesOneToThree(t *testing.T) {
	b := opened(t, 0, 1)
	for _, env := range []int{1, 16} {
		if code := b.Open(env); code != api.ErrList {
			t.Errorf("P8.1: Open(%d) = %d, want ErrList", env, code)
		}
	}
	mint(t, b, 0, -1, frame(15), 0, api.OK)
	derive(t, b, 0, 0, 1, -1, 7, 0, api.OK)
	derive(t, b, 1, 0, 1, 9, 1, 9, api.OK)
	derive(t, b, 1, 9, 0, -1, 1, -1, api.ErrRights)
	derive(t, b, 1, 0, 0, -1, 8, -1, api.ErrRights)
	derive(t, b, 0, 0, 2, -1, 1, -1, api.ErrList)
	derive(t, b, 0, 0, 0, -1, 16, -1, api.ErrArg)
	derive(t, b, 0, 0, 1, 9, 1, -1, api.ErrTaken)
	derive(t, b, 0, 3, 0, 99, 99, -1, api.ErrNoCap)

	from(t, "P8.7", b, 1, 9, place(1, 0))
	up(t, b, 1, 9, []int{0}, place(0, 0))
	up(t, b, 1, 9, []int{1}, place(1, 0))
	up(t, b, 1, 9, []int{7, 0, 0}, place(0, 0))
	up(t, b, 0, 0, []int{0, 1}, none)
	number(t, "On(1, 5)", b.On(1, 5), 3)
	number(t, "Find(1, 1, 7, 1)", b.Find(1, 1, 7, 1), 0)
	number(t, "Find(1, 1, 7, 8)", b.Find(1, 1, 7, 8), -1)
	number(t, "Find(0, 1, 7, 15)", b.Find(0, 1, 7, 15), 0)
	number(t, "Find(0, 1, 5, 0)", b.Find(0, 1, 5, 0), -1)

	drop(t, b, 1, 0, frame(7), api.OK)
	from(t, "P8.4", b, 1, 9, place(0, 0))
	revoke(t, "P8.5", b, 0, 0, held(1, 9, frame(1)))
	number(t, "On(1, 5)", b.On(1, 5), 1)
	revoke(t, "P8.5", b, 0, 0)
	drop(t, b, 0, 0, frame(15), api.OK)
	drop(t, b, 0, 0, api.Cap{}, api.ErrNoCap)
	number(t, "On(1, 5)", b.On(1, 5), 0)
}

func TestExampleFour(t *testing.T) {
	b := opened(t, 0, 1)
	extent := func(rights int) api.Cap { return api.Cap{Kind: 3, Obj: 2, Serial: 9, Rights: rights} }
	mint(t, b, 0, 4, extent(15), 4, api.OK)
	derive(t, b, 0, 4, 1, 0, 7, 0, api.OK)
	derive(t, b, 1, 0, 0, 0, 5, 0, api.OK)
	derive(t, b, 0, 0, 1, 1, 4, 1, api.OK)
	shut(t, b, 1, held(1, 0, extent(7)), held(1, 1, extent(4)))
	from(t, "P8.6", b, 0, 0, place(0, 4))
	if c, e := b.Get(1, 0); c != (api.Cap{}) || e != api.ErrList {
		t.Errorf("P8.6: Get(1, 0) behind Shut(1) = %v, %d, want ErrList", c, e)
	}
	number(t, "Room(1)", b.Room(1), 0)
	if code := b.Open(1); code != api.OK {
		t.Errorf("P8.1: Open(1) behind Shut(1) = %d, want OK", code)
	}
	number(t, "Room(1)", b.Room(1), 48)
}

func TestExampleFive(t *testing.T) {
	b := opened(t, 3)
	for i := range slots {
		mint(t, b, 3, -1, api.Cap{Kind: 1, Obj: i, Serial: i + 1}, i, api.OK)
	}
	mint(t, b, 3, -1, frame(0), -1, api.ErrNoSpace)
	b.Drop(3, 20)
	b.Drop(3, 7)
	mint(t, b, 3, -1, frame(0), 7, api.OK)
	mint(t, b, 3, 20, frame(0), 20, api.OK)
	mint(t, b, 3, 20, frame(0), -1, api.ErrTaken)
	mint(t, b, 3, 48, frame(0), -1, api.ErrArg)
	mint(t, b, 3, -1, api.Cap{Kind: 4, Serial: 1}, -1, api.ErrArg)
	mint(t, b, 3, -1, api.Cap{Kind: 1}, -1, api.ErrArg)
}

func TestExampleSix(t *testing.T) {
	b := opened(t, 0, 1)
	mint(t, b, 0, -1, frame(15), 0, api.OK)
	mint(t, b, 0, -1, frame(15), 1, api.OK)
	derive(t, b, 0, 0, 1, -1, 3, 0, api.OK)
	derive(t, b, 0, 1, 1, -1, 2, 1, api.OK)
	revoke(t, "P8.11", b, 0, 0, held(1, 0, frame(3)))
	purge(t, b, 1, 5, held(0, 0, frame(15)), held(0, 1, frame(15)), held(1, 1, frame(2)))
}

// refusesAll asks every call that has ErrList for a list that is not open.
func refusesAll(t *testing.T, b *caps.Book, env int) {
	t.Helper()
	if l, e := b.Shut(env); l != nil || e != api.ErrList {
		t.Errorf("P8.6: Shut(%d) = %v, %d, want nil, ErrList", env, l, e)
	}
	mint(t, b, env, 99, api.Cap{}, -1, api.ErrList)
	mint(t, b, env, -1, frame(15), -1, api.ErrList)
	derive(t, b, env, 99, env, 99, 99, -1, api.ErrList)
	drop(t, b, env, 99, api.Cap{}, api.ErrList)
	if l, e := b.Revoke(env, 99); l != nil || e != api.ErrList {
		t.Errorf("P8.5: Revoke(%d, 99) = %v, %d, want nil, ErrList", env, l, e)
	}
	if c, e := b.Get(env, 99); c != (api.Cap{}) || e != api.ErrList {
		t.Errorf("P8.7: Get(%d, 99) = %v, %d, want ErrList", env, c, e)
	}
	if p, e := b.From(env, 99); p != none || e != api.ErrList {
		t.Errorf("P8.7: From(%d, 99) = %v, %d, want {-1, -1}, ErrList", env, p, e)
	}
	if p, e := b.Up(env, 99, []int{env}); p != none || e != api.ErrList {
		t.Errorf("P8.7: Up(%d, 99) = %v, %d, want {-1, -1}, ErrList", env, p, e)
	}
	if l, e := b.List(env); l != nil || e != api.ErrList {
		t.Errorf("P8.8: List(%d) = %v, %d, want nil, ErrList", env, l, e)
	}
	number(t, "Count of a list that is not open", b.Count(env, 1), 0)
	number(t, "Room of a list that is not open", b.Room(env), 0)
	number(t, "Find in a list that is not open", b.Find(env, 1, 7, 0), -1)
}

func TestNoListIsOpenAtFirst(t *testing.T) {
	b := caps.New()
	for _, env := range []int{math.MinInt, -17, -1, 0, 1, 15, 16, 17, 1 << 32, math.MaxInt} {
		refusesAll(t, b, env)
	}
	number(t, "On(1, 5)", b.On(1, 5), 0)
	purge(t, b, 1, 5)
}

func TestOpenIsOneList(t *testing.T) {
	for env := range envs {
		b := opened(t, env)
		for other := -1; other <= envs; other++ {
			if other != env {
				refusesAll(t, b, other)
				continue
			}
			number(t, "Room of an open list", b.Room(env), slots)
			if l, e := b.List(env); len(l) != 0 || e != api.OK {
				t.Errorf("P8.1: List(%d) of an opened list = %v, %d, want nothing, OK", env, l, e)
			}
		}
		mint(t, b, env, 3, frame(1), 3, api.OK)
		if code := b.Open(env); code != api.ErrList || b.Room(env) != slots-1 {
			t.Errorf("P8.1: Open(%d) again = %d, Room %d, want ErrList, and nothing changed", env, code, b.Room(env))
		}
	}
	b := every(t)
	for _, env := range []int{math.MinInt, -1, 16, math.MaxInt} {
		if code := b.Open(env); code != api.ErrList {
			t.Errorf("P8.1: Open(%d) = %d, want ErrList", env, code)
		}
	}
}

func TestNoCapability(t *testing.T) {
	b := opened(t, 0)
	mint(t, b, 0, 3, frame(15), 3, api.OK)
	before := tell(b)
	for _, slot := range []int{math.MinInt, -3, -1, 0, 2, 4, 47, 48, 51, 1 << 32, math.MaxInt} {
		derive(t, b, 0, slot, 0, 3, 15, -1, api.ErrNoCap)
		drop(t, b, 0, slot, api.Cap{}, api.ErrNoCap)
		if l, e := b.Revoke(0, slot); l != nil || e != api.ErrNoCap {
			t.Errorf("P8.5: Revoke(0, %d) = %v, %d, want nil, ErrNoCap", slot, l, e)
		}
		if c, e := b.Get(0, slot); c != (api.Cap{}) || e != api.ErrNoCap {
			t.Errorf("P8.7: Get(0, %d) = %v, %d, want ErrNoCap", slot, c, e)
		}
		if p, e := b.From(0, slot); p != none || e != api.ErrNoCap {
			t.Errorf("P8.7: From(0, %d) = %v, %d, want {-1, -1}, ErrNoCap", slot, p, e)
		}
		if p, e := b.Up(0, slot, []int{0}); p != none || e != api.ErrNoCap {
			t.Errorf("P8.7: Up(0, %d) = %v, %d, want {-1, -1}, ErrNoCap", slot, p, e)
		}
	}
	if !tell(b).same(before) {
		t.Errorf("P8.9: calls that were refused made the book %v, was %v", tell(b), before)
	}
}

func TestRightsOfChildren(t *testing.T) {
	for have := range 16 {
		b := opened(t, 0, 1)
		mint(t, b, 0, 0, frame(have), 0, api.OK)
		slot := 0
		for rights := range 16 {
			if have&4 == 0 || have&rights != rights {
				derive(t, b, 0, 0, 1, -1, rights, -1, api.ErrRights)
				continue
			}
			derive(t, b, 0, 0, 1, -1, rights, slot, api.OK)
			if c, e := b.Get(1, slot); c != frame(rights) || e != api.OK {
				t.Errorf("P8.3: the child with rights %d of one with %d is %v, %d", rights, have, c, e)
			}
			from(t, "P8.3", b, 1, slot, place(0, 0))
			slot++
		}
	}
}

func TestEdgesOfNumbers(t *testing.T) {
	b := opened(t, 15)
	last := api.Cap{Kind: 3, Obj: 1<<62 - 1, Serial: 1<<62 - 1, Rights: 15}
	mint(t, b, 15, 47, last, 47, api.OK)
	mint(t, b, 15, 0, api.Cap{Kind: 1, Obj: 0, Serial: 1, Rights: 0}, 0, api.OK)
	derive(t, b, 15, 47, 15, 46, 15, 46, api.OK)
	derive(t, b, 15, 46, 15, -1, 0, 1, api.OK)
	number(t, "Find of the greatest serial", b.Find(15, 3, 1<<62-1, 15), 46)
	number(t, "On of the greatest number", b.On(3, 1<<62-1), 3)
	number(t, "Count(15, 3)", b.Count(15, 3), 3)
	number(t, "Count(15, 1)", b.Count(15, 1), 1)
	number(t, "Room(15)", b.Room(15), 44)
	purge(t, b, 3, 1<<62-1, held(15, 1, api.Cap{Kind: 3, Obj: 1<<62 - 1, Serial: 1<<62 - 1}), held(15, 46, last), held(15, 47, last))
}

func TestFullListTakesNoChild(t *testing.T) {
	b := opened(t, 0, 1)
	mint(t, b, 0, 0, frame(15), 0, api.OK)
	for i := range slots {
		derive(t, b, 0, 0, 1, -1, 4, i, api.OK)
	}
	derive(t, b, 0, 0, 1, -1, 4, -1, api.ErrNoSpace)
	derive(t, b, 0, 0, 1, 47, 4, -1, api.ErrTaken)
	derive(t, b, 1, 47, 1, -1, 4, -1, api.ErrNoSpace)
	derive(t, b, 1, 47, 1, -1, 5, -1, api.ErrRights)
	drop(t, b, 1, 31, frame(4), api.OK)
	drop(t, b, 1, 30, frame(4), api.OK)
	derive(t, b, 0, 0, 1, -1, 4, 30, api.OK)
	derive(t, b, 0, 0, 1, -1, 4, 31, api.OK)
}

func TestDropHandsChildrenOn(t *testing.T) {
	b := opened(t, 0, 1, 2)
	mint(t, b, 0, 0, frame(15), 0, api.OK)
	mint(t, b, 0, 1, frame(15), 1, api.OK)
	derive(t, b, 0, 0, 1, 5, 15, 5, api.OK)
	derive(t, b, 1, 5, 2, 6, 15, 6, api.OK)
	derive(t, b, 1, 5, 0, 7, 15, 7, api.OK)
	derive(t, b, 2, 6, 1, 8, 15, 8, api.OK)
	derive(t, b, 0, 1, 1, 9, 15, 9, api.OK)
	drop(t, b, 1, 5, frame(15), api.OK)
	from(t, "P8.4", b, 2, 6, place(0, 0))
	from(t, "P8.4", b, 0, 7, place(0, 0))
	from(t, "P8.4", b, 1, 8, place(2, 6))
	from(t, "P8.4", b, 1, 9, place(0, 1))
	drop(t, b, 0, 0, frame(15), api.OK)
	from(t, "P8.4", b, 2, 6, none)
	from(t, "P8.4", b, 0, 7, none)
	from(t, "P8.4", b, 1, 8, place(2, 6))
	number(t, "On(1, 5)", b.On(1, 5), 5)
}

func TestSlotUsedAgainHasNoChildren(t *testing.T) {
	b := opened(t, 0, 1)
	mint(t, b, 0, 0, frame(15), 0, api.OK)
	derive(t, b, 0, 0, 0, 1, 15, 1, api.OK)
	derive(t, b, 0, 1, 1, 0, 15, 0, api.OK)
	drop(t, b, 0, 1, frame(15), api.OK)
	derive(t, b, 0, 0, 0, 1, 15, 1, api.OK)
	revoke(t, "P8.11", b, 0, 1)
	from(t, "P8.11", b, 1, 0, place(0, 0))
	drop(t, b, 0, 0, frame(15), api.OK)
	mint(t, b, 0, 0, frame(15), 0, api.OK)
	revoke(t, "P8.11", b, 0, 0)
	shut(t, b, 0, held(0, 0, frame(15)), held(0, 1, frame(15)))
	b.Open(0)
	mint(t, b, 0, 0, frame(15), 0, api.OK)
	revoke(t, "P8.11", b, 0, 0)
	from(t, "P8.6", b, 1, 0, none)
}

func TestRevokeReachesThroughWhatWasDropped(t *testing.T) {
	b := opened(t, 0, 1, 2, 3)
	mint(t, b, 0, 0, frame(15), 0, api.OK)
	derive(t, b, 0, 0, 1, 0, 15, 0, api.OK)
	derive(t, b, 1, 0, 2, 0, 15, 0, api.OK)
	derive(t, b, 2, 0, 3, 0, 15, 0, api.OK)
	derive(t, b, 3, 0, 0, 1, 1, 1, api.OK)
	derive(t, b, 0, 0, 3, 1, 2, 1, api.OK)
	drop(t, b, 2, 0, frame(15), api.OK)
	shut(t, b, 3, held(3, 0, frame(15)), held(3, 1, frame(2)))
	revoke(t, "P8.11", b, 1, 0, held(0, 1, frame(1)))
	number(t, "On(1, 5)", b.On(1, 5), 2)
}

// chained: one capability from which all others of a full book were derived, one from another, each in the next list. It lies in list 0, slot 0.
func chained(t *testing.T) *caps.Book {
	t.Helper()
	b := every(t)
	mint(t, b, 0, -1, frame(15), 0, api.OK)
	for n := 1; n < envs*slots; n++ {
		derive(t, b, (n-1)%envs, (n-1)/envs, n%envs, -1, 15, n/envs, api.OK)
	}
	return b
}

func TestLongestChain(t *testing.T) {
	b := chained(t)
	up(t, b, 15, 47, []int{15}, place(15, 46))
	up(t, b, 15, 47, []int{0}, place(0, 47))
	up(t, b, 15, 0, []int{15}, none)
	for env := range envs {
		if env%3 == 1 {
			if l, e := b.Shut(env); len(l) != slots || e != api.OK {
				t.Fatalf("P8.6: Shut(%d) takes %d, %d, want 48, OK", env, len(l), e)
			}
		}
	}
	from(t, "P8.6", b, 2, 0, place(0, 0))
	from(t, "P8.6", b, 0, 1, place(15, 0))
	from(t, "P8.6", b, 3, 47, place(2, 47))
	var want []api.Held
	for _, h := range tell(b).caps {
		if h.Held.Env != 0 || h.Held.Slot != 0 {
			want = append(want, h.Held)
		}
	}
	if len(want) != 11*slots-1 {
		t.Errorf("P8.6: %d are left", len(want)+1)
	}
	revoke(t, "P8.11", b, 0, 0, want...)
	number(t, "On(1, 5)", b.On(1, 5), 1)
}

func TestRevokeInTheMiddle(t *testing.T) {
	b := chained(t)
	l, e := b.Revoke(7, 20)
	if len(l) != envs*slots-(7+20*envs)-1 || e != api.OK {
		t.Errorf("P8.5: Revoke(7, 20) takes %d, %d", len(l), e)
	}
	for env := range envs {
		want := slots - 20
		if env <= 7 {
			want--
		}
		number(t, "Room behind Revoke", b.Room(env), want)
	}
	from(t, "P8.5", b, 7, 20, place(6, 20))
}

func TestPurgeIsOneObject(t *testing.T) {
	b := opened(t, 0, 1)
	mint(t, b, 0, 0, api.Cap{Kind: 1, Obj: 5, Serial: 7, Rights: 15}, 0, api.OK)
	mint(t, b, 0, 1, api.Cap{Kind: 2, Obj: 5, Serial: 7, Rights: 15}, 1, api.OK)
	mint(t, b, 0, 2, api.Cap{Kind: 1, Obj: 6, Serial: 7, Rights: 15}, 2, api.OK)
	mint(t, b, 0, 3, api.Cap{Kind: 1, Obj: 5, Serial: 8}, 3, api.OK)
	derive(t, b, 0, 0, 1, 4, 2, 4, api.OK)
	derive(t, b, 0, 1, 1, 5, 2, 5, api.OK)
	before := tell(b)
	for _, c := range [][2]int{{0, 5}, {4, 5}, {-1, -1}, {1, -1}, {1, 7}, {3, 5}, {1, 1 << 62}, {math.MinInt, math.MaxInt}} {
		purge(t, b, c[0], c[1])
		number(t, "On of an object that is not there", b.On(c[0], c[1]), 0)
	}
	if !tell(b).same(before) {
		t.Errorf("P8.5: Purge of what is not there made the book %v", tell(b))
	}
	number(t, "On(1, 5)", b.On(1, 5), 3)
	purge(t, b, 1, 5, held(0, 0, frame(15)), held(0, 3, api.Cap{Kind: 1, Obj: 5, Serial: 8}), held(1, 4, frame(2)))
	from(t, "P8.5", b, 1, 5, place(0, 1))
	number(t, "On(1, 5)", b.On(1, 5), 0)
	number(t, "On(1, 6)", b.On(1, 6), 1)
	number(t, "On(2, 5)", b.On(2, 5), 2)
}

func TestFindIsTheLowestThatHasAll(t *testing.T) {
	b := opened(t, 0, 1)
	mint(t, b, 1, 0, frame(15), 0, api.OK)
	for slot, rights := range map[int]int{2: 1, 9: 3, 11: 6, 30: 7, 40: 15} {
		mint(t, b, 0, slot, frame(rights), slot, api.OK)
	}
	mint(t, b, 0, 1, api.Cap{Kind: 2, Obj: 5, Serial: 7, Rights: 15}, 1, api.OK)
	mint(t, b, 0, 0, api.Cap{Kind: 1, Obj: 5, Serial: 6, Rights: 15}, 0, api.OK)
	for rights, want := range map[int]int{0: 2, 1: 2, 2: 9, 3: 9, 4: 11, 6: 11, 5: 30, 7: 30, 8: 40, 15: 40, 16: -1, 17: -1, -1: -1, math.MinInt: -1, math.MaxInt: -1} {
		number(t, "Find(0, 1, 7, rights)", b.Find(0, 1, 7, rights), want)
	}
	for _, c := range [][2]int{{1, 5}, {3, 7}, {0, 7}, {4, 7}, {1, 0}, {1, -7}, {math.MinInt, math.MaxInt}} {
		number(t, "Find of what is not there", b.Find(0, c[0], c[1], 0), -1)
	}
}

func TestNumbersOfInsideDoNoHarm(t *testing.T) {
	b := opened(t, 0, 1, 2)
	mint(t, b, 0, 0, frame(15), 0, api.OK)
	derive(t, b, 0, 0, 1, 1, 15, 1, api.OK)
	derive(t, b, 1, 1, 2, 2, 15, 2, api.OK)
	derive(t, b, 2, 2, 2, 3, 15, 3, api.OK)
	inside := []int{math.MaxInt, 1, 1, -1, 16, math.MinInt, 9, 0, 1}
	given := slices.Clone(inside)
	up(t, b, 2, 3, inside, place(1, 1))
	up(t, b, 1, 1, inside, place(0, 0))
	if !slices.Equal(inside, given) {
		t.Errorf("P8.9: Up changed inside: %v, was %v", inside, given)
	}
	for i := range inside {
		inside[i] = 2
	}
	up(t, b, 2, 3, given, place(1, 1))
	up(t, b, 2, 3, inside, place(2, 2))
	up(t, b, 2, 2, inside, none)
	for _, nobody := range [][]int{nil, {}, {-1, 16, 3, math.MinInt, math.MaxInt}} {
		up(t, b, 2, 3, nobody, none)
	}
}

func TestAnswersAreNewMemory(t *testing.T) {
	spoil := func(l []api.Held) {
		for i := range l[:cap(l)] {
			l[:cap(l)][i] = held(9, 9, api.Cap{Kind: 3, Obj: 3, Serial: 3, Rights: 3})
		}
	}
	b := every(t)
	for i := range 20 {
		mint(t, b, i%4, -1, frame(15), i/4, api.OK)
		derive(t, b, i%4, i/4, 5, -1, 7, i, api.OK)
	}
	before := tell(b)
	for env := range envs {
		l, _ := b.List(env)
		spoil(l)
	}
	if !tell(b).same(before) {
		t.Errorf("P8.9: a list that was answered is the book's own: %v", tell(b))
	}
	m := &model{}
	for env := range envs {
		m.Open(env)
	}
	for i := range 20 {
		m.Mint(i%4, -1, frame(15))
		m.Derive(i%4, i/4, 5, -1, 7)
	}
	l, _ := b.Revoke(0, 0)
	spoil(l)
	l, _ = b.Shut(1)
	spoil(l)
	m.Revoke(0, 0)
	m.Shut(1)
	if !tell(b).same(tell(m)) {
		t.Errorf("P8.9: what Revoke or Shut answered is the book's own: %v", tell(b))
	}
	spoil(b.Purge(1, 5))
	m.Purge(1, 5)
	if !tell(b).same(tell(m)) {
		t.Errorf("P8.9: what Purge answered is the book's own: %v", tell(b))
	}
}

func TestBooksAreApart(t *testing.T) {
	a, b := opened(t, 0, 1), opened(t, 0)
	mint(t, a, 0, 0, frame(15), 0, api.OK)
	derive(t, a, 0, 0, 1, 0, 15, 0, api.OK)
	number(t, "On of the other book", b.On(1, 5), 0)
	mint(t, b, 0, 0, frame(15), 0, api.OK)
	purge(t, b, 1, 5, held(0, 0, frame(15)))
	shut(t, b, 0)
	from(t, "P8.7", a, 1, 0, place(0, 0))
}
