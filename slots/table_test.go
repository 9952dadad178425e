package slots_test

import (
	"math"
	"slices"
	"testing"

	"amber/api"
	"amber/slots"
)

// pair: a place and what lies there.
type pair[T any] struct {
	at int
	v  T
}

// farNumbers: numbers that are no place of any table, and those beside the greatest bound.
var farNumbers = []int{math.MinInt, math.MinInt + 1, -4097, -2, -1, 4095, 4096, 4097, 1 << 40, math.MaxInt - 1, math.MaxInt}

// mustLay lays each value at its place.
func mustLay[T any](t *testing.T, promise string, a *slots.Table[T], pairs ...pair[T]) {
	t.Helper()
	for _, p := range pairs {
		if e := a.PutAt(p.at, p.v); e != api.OK {
			t.Fatalf("%s: PutAt(%d) = %d", promise, p.at, e)
		}
	}
}

// holds asks a table for all that it tells, and holds it against its bound and the pairs, which rise by place.
func holds[T comparable](t *testing.T, promise string, a *slots.Table[T], bound int, want ...pair[T]) {
	t.Helper()
	if a.Bound() != bound || a.Len() != len(want) {
		t.Errorf("%s: Bound %d, Len %d; want %d, %d", promise, a.Bound(), a.Len(), bound, len(want))
	}
	var zero T
	rest := want
	for i := range bound + 2 {
		for len(rest) > 0 && rest[0].at < i {
			rest = rest[1:]
		}
		next, v, ok := -1, zero, false
		if len(rest) > 0 {
			next = rest[0].at
		}
		if next == i {
			v, ok = rest[0].v, true
		}
		if got := a.Next(i); got != next {
			t.Fatalf("%s: Next(%d) = %d; want %d", promise, i, got, next)
		}
		if got, there := a.Get(i); got != v || there != ok {
			t.Fatalf("%s: Get(%d) = %v, %v; want %v, %v", promise, i, got, there, v, ok)
		}
	}
	if got := gone(a); !slices.Equal(got, want) {
		t.Errorf("%s: All gives %v; want %v", promise, got, want)
	}
}

// gone is what a range over All gives.
func gone[T any](a *slots.Table[T]) []pair[T] {
	var out []pair[T]
	for i, v := range a.All() {
		out = append(out, pair[T]{i, v})
	}
	return out
}

func TestExampleOfPut(t *testing.T) {
	a := slots.New[string](3)
	for i, s := range []string{"a", "b", "c"} {
		if k, e := a.Put(s); k != i || e != api.OK {
			t.Errorf("P3.2: Put(%q) = %d, %d; want %d, OK", s, k, e, i)
		}
	}
	if k, e := a.Put("d"); k != -1 || e != api.ErrNoSpace {
		t.Errorf("P3.1: Put into a full table = %d, %d; want -1, ErrNoSpace", k, e)
	}
	holds(t, "P3.1", a, 3, pair[string]{0, "a"}, pair[string]{1, "b"}, pair[string]{2, "c"})
	if s, ok := a.Drop(1); s != "b" || !ok {
		t.Errorf("P3.1: Drop(1) = %q, %v; want b, true", s, ok)
	}
	holds(t, "P3.3", a, 3, pair[string]{0, "a"}, pair[string]{2, "c"})
	if s, ok := a.Drop(1); s != "" || ok {
		t.Errorf("P3.1: Drop of a free place = %q, %v", s, ok)
	}
	if k, e := a.Put("e"); k != 1 || e != api.OK {
		t.Errorf("P3.2: Put behind Drop(1) = %d, %d; want 1, OK", k, e)
	}
	holds(t, "P3.3", a, 3, pair[string]{0, "a"}, pair[string]{1, "e"}, pair[string]{2, "c"})
}

func TestBoundIsKeptWithinItsLimits(t *testing.T) {
	for _, c := range []struct{ asked, bound int }{
		{math.MinInt, 0}, {-5, 0}, {-1, 0}, {0, 0}, {1, 1}, {4095, 4095}, {4096, 4096}, {4097, 4096}, {5000, 4096}, {math.MaxInt, 4096},
	} {
		holds(t, "P3.1", slots.New[int](c.asked), c.bound)
	}
}

func TestBoundZeroTakesNothing(t *testing.T) {
	a := slots.New[int](0)
	if k, e := a.Put(7); k != -1 || e != api.ErrNoSpace {
		t.Errorf("P3.1: Put = %d, %d; want -1, ErrNoSpace", k, e)
	}
	if e := a.PutAt(0, 7); e != api.ErrSlot {
		t.Errorf("P3.1: PutAt(0) = %d; want ErrSlot", e)
	}
	if a.Set(0, 7) {
		t.Error("P3.1: Set(0) = true")
	}
	if v, ok := a.Drop(0); v != 0 || ok {
		t.Errorf("P3.1: Drop(0) = %d, %v", v, ok)
	}
	if k := slots.Find(a, 0); k != -1 {
		t.Errorf("P3.1: Find(0) = %d; want -1", k)
	}
	a.Clear()
	holds(t, "P3.1", a, 0)
	holds(t, "P3.1", slots.Copy(a), 0)
}

func TestExampleOfPlaces(t *testing.T) {
	a := slots.New[int](4)
	mustLay(t, "P3.1", a, pair[int]{2, 9})
	for _, c := range []struct {
		at int
		e  api.Errno
	}{{2, api.ErrTaken}, {4, api.ErrSlot}, {-1, api.ErrSlot}} {
		if e := a.PutAt(c.at, 8); e != c.e {
			t.Errorf("P3.1: PutAt(%d, 8) = %d; want %d", c.at, e, c.e)
		}
	}
	holds(t, "P3.3", a, 4, pair[int]{2, 9})
	for _, c := range [][2]int{{-100, 2}, {-1, 2}, {0, 2}, {2, 2}, {3, -1}, {4, -1}} {
		if k := a.Next(c[0]); k != c[1] {
			t.Errorf("P3.1: Next(%d) = %d; want %d", c[0], k, c[1])
		}
	}
	for _, p := range []pair[int]{{0, 5}, {1, 6}, {3, 7}} {
		if k, e := a.Put(p.v); k != p.at || e != api.OK {
			t.Errorf("P3.2: Put(%d) = %d, %d; want %d, OK", p.v, k, e, p.at)
		}
	}
	if k := slots.Find(a, 9); k != 2 {
		t.Errorf("P3.1: Find(9) = %d; want 2", k)
	}
	if k := slots.Find(a, 4); k != -1 {
		t.Errorf("P3.1: Find(4) = %d; want -1", k)
	}
	holds(t, "P3.3", a, 4, pair[int]{0, 5}, pair[int]{1, 6}, pair[int]{2, 9}, pair[int]{3, 7})
}

func TestNumbersOutsideAreRefusedAndChangeNothing(t *testing.T) {
	a := slots.New[int](3)
	mustLay(t, "P3.1", a, pair[int]{0, 1}, pair[int]{2, 3})
	for _, i := range append([]int{3}, farNumbers...) {
		if e := a.PutAt(i, 9); e != api.ErrSlot {
			t.Errorf("P3.1: PutAt(%d) = %d; want ErrSlot", i, e)
		}
		if v, ok := a.Get(i); v != 0 || ok {
			t.Errorf("P3.1: Get(%d) = %d, %v", i, v, ok)
		}
		if a.Set(i, 9) {
			t.Errorf("P3.1: Set(%d) = true", i)
		}
		if v, ok := a.Drop(i); v != 0 || ok {
			t.Errorf("P3.1: Drop(%d) = %d, %v", i, v, ok)
		}
		want := -1
		if i < 0 {
			want = 0
		}
		if k := a.Next(i); k != want {
			t.Errorf("P3.1: Next(%d) = %d; want %d", i, k, want)
		}
	}
	holds(t, "P3.1", a, 3, pair[int]{0, 1}, pair[int]{2, 3})
}

func TestFreePlacesHaveNothingToSetOrDrop(t *testing.T) {
	a := slots.New[int](3)
	mustLay(t, "P3.1", a, pair[int]{1, 5})
	for _, i := range []int{0, 2} {
		if a.Set(i, 9) {
			t.Errorf("P3.1: Set(%d) of a free place = true", i)
		}
		if v, ok := a.Drop(i); v != 0 || ok {
			t.Errorf("P3.1: Drop(%d) of a free place = %d, %v", i, v, ok)
		}
	}
	if !a.Set(1, 6) {
		t.Error("P3.1: Set(1) of a taken place = false")
	}
	holds(t, "P3.3", a, 3, pair[int]{1, 6})
}

func TestGreatestTableIsFilledToItsLastPlace(t *testing.T) {
	a := slots.New[int](math.MaxInt)
	mustLay(t, "P3.1", a, pair[int]{4095, 1})
	for i := range 4095 {
		if k, e := a.Put(i); k != i || e != api.OK {
			t.Fatalf("P3.2: Put = %d, %d; want %d, OK", k, e, i)
		}
	}
	if k, e := a.Put(0); k != -1 || e != api.ErrNoSpace {
		t.Errorf("P3.1: Put into 4096 taken places = %d, %d", k, e)
	}
	if k := a.Next(4095); k != 4095 || a.Len() != 4096 {
		t.Errorf("P3.1: Next(4095) = %d, Len %d", k, a.Len())
	}
}

func TestEmptiedInAnyOrderGivesLowestPlacesAgain(t *testing.T) {
	const bound = 12
	for _, step := range []int{1, 5, 7, 11} { // each goes through all twelve places in its own order
		a := slots.New[int](bound)
		for i := range bound {
			a.Put(i)
		}
		for n := range bound {
			if v, ok := a.Drop(n * step % bound); v != n*step%bound || !ok {
				t.Errorf("P3.3: Drop(%d) = %d, %v", n*step%bound, v, ok)
			}
		}
		holds(t, "P3.2", a, bound)
		for i := range bound {
			if k, e := a.Put(i); k != i || e != api.OK {
				t.Errorf("P3.2: Put into an emptied table = %d, %d; want %d, OK", k, e, i)
			}
		}
	}
}

func TestPutTakesTheLowestOfSeveralFreePlaces(t *testing.T) {
	a := slots.New[int](6)
	for i := range 6 {
		a.Put(i)
	}
	for _, i := range []int{4, 1, 3} {
		a.Drop(i)
	}
	for _, want := range []int{1, 3, 4} {
		if k, _ := a.Put(0); k != want {
			t.Errorf("P3.2: Put = %d; want %d", k, want)
		}
	}
}

func TestClear(t *testing.T) {
	a := slots.New[string](5)
	mustLay(t, "P3.1", a, pair[string]{0, "p"}, pair[string]{4, "q"})
	a.Clear()
	holds(t, "P3.1", a, 5)
	if a.Set(4, "r") {
		t.Error("P3.1: Set behind Clear = true")
	}
	if k, e := a.Put("s"); k != 0 || e != api.OK {
		t.Errorf("P3.2: Put behind Clear = %d, %d", k, e)
	}
}

func TestFindTellsTheLowestPlace(t *testing.T) {
	a := slots.New[[2]int](5)
	mustLay(t, "P3.1", a, pair[[2]int]{1, [2]int{7, 7}}, pair[[2]int]{3, [2]int{}}, pair[[2]int]{4, [2]int{7, 7}})
	if k := slots.Find(a, [2]int{7, 7}); k != 1 {
		t.Errorf("P3.1: Find of a value that lies twice = %d; want 1", k)
	}
	if k := slots.Find(a, [2]int{}); k != 3 {
		t.Errorf("P3.1: Find of the zero value = %d; want 3 (a free place holds none)", k)
	}
	a.Drop(1)
	if k := slots.Find(a, [2]int{7, 7}); k != 4 {
		t.Errorf("P3.1: Find behind Drop = %d; want 4", k)
	}
}

func TestCopyIsApart(t *testing.T) {
	a := slots.New[int](4)
	mustLay(t, "P3.1", a, pair[int]{1, 10}, pair[int]{3, 30})
	b := slots.Copy(a)
	holds(t, "P3.1", b, 4, pair[int]{1, 10}, pair[int]{3, 30})
	a.Set(1, 11)
	a.Drop(3)
	a.Put(5)
	holds(t, "P3.1", b, 4, pair[int]{1, 10}, pair[int]{3, 30})
	b.Set(1, 12)
	b.Clear()
	holds(t, "P3.1", a, 4, pair[int]{0, 5}, pair[int]{1, 11})
}

// three: 10, 20, 30 at 0, 1, 2, of bound 4.
func three() *slots.Table[int] {
	a := slots.New[int](4)
	for _, v := range []int{10, 20, 30} {
		a.Put(v)
	}
	return a
}

func TestAllLooksUpTheNextPlaceBehindTheBody(t *testing.T) {
	for _, c := range []struct {
		name string
		body func(a *slots.Table[int], i int)
		want []pair[int]
	}{
		{"nothing done", func(*slots.Table[int], int) {}, []pair[int]{{0, 10}, {1, 20}, {2, 30}}},
		{"dropped and laid above", func(a *slots.Table[int], i int) {
			if i == 0 {
				a.Drop(1)
				a.PutAt(3, 40)
			}
		}, []pair[int]{{0, 10}, {2, 30}, {3, 40}}},
		{"set above", func(a *slots.Table[int], i int) { a.Set(i+1, -i) }, []pair[int]{{0, 10}, {1, 0}, {2, -1}}},
		{"set, dropped and laid at and below", func(a *slots.Table[int], i int) {
			a.Set(i, 99)
			a.Drop(i)
			a.Put(98)
		}, []pair[int]{{0, 10}, {1, 20}, {2, 30}}},
		{"dropped and laid anew above", func(a *slots.Table[int], i int) {
			if i == 1 {
				a.Drop(2)
				a.PutAt(2, 31)
			}
		}, []pair[int]{{0, 10}, {1, 20}, {2, 31}}},
		{"cleared", func(a *slots.Table[int], i int) { a.Clear() }, []pair[int]{{0, 10}}},
		{"laid always", func(a *slots.Table[int], i int) { a.PutAt(i+1, i) }, []pair[int]{{0, 10}, {1, 20}, {2, 30}, {3, 2}}},
	} {
		a := three()
		var got []pair[int]
		for i, v := range a.All() {
			got = append(got, pair[int]{i, v})
			c.body(a, i)
		}
		if !slices.Equal(got, c.want) {
			t.Errorf("P3.1: All, %s: given %v; want %v", c.name, got, c.want)
		}
	}
}

func TestAllIsLeftAndBegunAnew(t *testing.T) {
	a := three()
	all := a.All()
	var got []pair[int]
	for i, v := range all {
		got = append(got, pair[int]{i, v})
		if i == 1 {
			a.Set(0, 11)
			break
		}
	}
	if want := []pair[int]{{0, 10}, {1, 20}}; !slices.Equal(got, want) {
		t.Errorf("P3.1: All, left at 1: given %v; want %v", got, want)
	}
	holds(t, "P3.1", a, 4, pair[int]{0, 11}, pair[int]{1, 20}, pair[int]{2, 30})
	a.PutAt(3, 40)
	for range 2 {
		got = nil
		for i, v := range all {
			got = append(got, pair[int]{i, v})
		}
		if want := []pair[int]{{0, 11}, {1, 20}, {2, 30}, {3, 40}}; !slices.Equal(got, want) {
			t.Errorf("P3.1: All, begun anew: given %v; want %v", got, want)
		}
	}
}

func TestAllWithinAll(t *testing.T) {
	a := three()
	var got []pair[int]
	for i, v := range a.All() {
		got = append(got, pair[int]{i, v + len(gone(a))})
	}
	if want := []pair[int]{{0, 13}, {1, 23}, {2, 33}}; !slices.Equal(got, want) {
		t.Errorf("P3.1: All within All: given %v; want %v", got, want)
	}
}

func TestAllGivesAtMostBoundPlaces(t *testing.T) {
	const bound = 50
	a := slots.New[int](bound)
	a.Put(0)
	given := 0
	for i := range a.All() {
		given++
		for range bound { // the body fills the table to its end, and begins again below
			a.Put(i)
		}
		a.Drop(i)
	}
	if given != bound {
		t.Errorf("P3.1: All gave %d places of %d", given, bound)
	}
}

func TestTablesOfEveryKindOfValue(t *testing.T) {
	empty := slots.New[struct{}](2)
	mustLay(t, "P3.1", empty, pair[struct{}]{1, struct{}{}})
	holds(t, "P3.1", empty, 2, pair[struct{}]{1, struct{}{}})

	great := slots.New[[1 << 16]byte](4096)
	var v [1 << 16]byte
	v[65535] = 7
	mustLay(t, "P3.1", great, pair[[1 << 16]byte]{4095, v})
	v[65535] = 8
	if got, ok := great.Get(4095); got[65535] != 7 || !ok {
		t.Errorf("P3.1: a great value = %d, %v", got[65535], ok)
	}

	calls := slots.New[func() int](2)
	mustLay(t, "P3.1", calls, pair[func() int]{0, func() int { return 5 }}, pair[func() int]{1, nil})
	if f, ok := calls.Get(0); !ok || f() != 5 {
		t.Error("P3.1: a table of functions lost one")
	}
	if f, ok := calls.Get(1); !ok || f != nil {
		t.Error("P3.1: a nil value is a value: its place is taken")
	}
	if f, ok := slots.Copy(calls).Drop(1); !ok || f != nil {
		t.Error("P3.1: a nil value is copied and dropped as another")
	}

	lists := slots.New[[]int](1)
	list := []int{1, 2}
	lists.Put(list)
	list[0] = 9
	if got, _ := lists.Get(0); got[0] != 9 {
		t.Error("P3.1: values are kept as they are, by assignment")
	}
}

// model is a table told in the plainest way: the place's value, or nothing.
type model struct {
	bound  int
	values map[int]uint32
}

func (m *model) pairs() []pair[uint32] {
	var out []pair[uint32]
	for i := range m.bound {
		if v, ok := m.values[i]; ok {
			out = append(out, pair[uint32]{i, v})
		}
	}
	return out
}

// put lays v at the lowest free place, or tells -1.
func (m *model) put(v uint32) int {
	for i := range m.bound {
		if _, ok := m.values[i]; !ok {
			m.values[i] = v
			return i
		}
	}
	return -1
}

// try does one call to the table and to the model, and tells whether both answer alike.
func (m *model) try(a *slots.Table[uint32], call, i int, v uint32) bool {
	old, ok := m.values[i]
	switch call {
	case 0, 1:
		k, e := a.Put(v)
		return k == m.put(v) && (e == api.OK) == (k >= 0)
	case 2:
		want := api.OK
		if i < 0 || i >= m.bound {
			want = api.ErrSlot
		} else if ok {
			want = api.ErrTaken
		} else {
			m.values[i] = v
		}
		return a.PutAt(i, v) == want
	case 3:
		if ok {
			m.values[i] = v
		}
		return a.Set(i, v) == ok
	default:
		delete(m.values, i)
		got, there := a.Drop(i)
		return got == old && there == ok
	}
}

func TestScriptsOfCallsAgainstAModel(t *testing.T) {
	seed := uint32(1)
	roll := func(n uint32) int {
		seed = seed*1664525 + 1013904223
		return int(seed >> 8 % n)
	}
	for bound := range 20 {
		m := &model{bound, map[int]uint32{}}
		a := slots.New[uint32](bound)
		for n := range 400 {
			call, i := roll(6), roll(uint32(bound+3))-1
			v := uint32(n)
			if !m.try(a, call, i, v) {
				t.Fatalf("P3.1: bound %d, step %d: call %d at %d answers another thing than said", bound, n, call, i)
			}
			if t.Failed() {
				return
			}
			holds(t, "P3.3", a, bound, m.pairs()...)
			if n%97 == 96 {
				a.Clear()
				clear(m.values)
			}
		}
	}
}
