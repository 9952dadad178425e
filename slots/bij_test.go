package slots_test

import (
	"testing"

	"amber/slots"
)

// tied holds a tie against the pairs it must have, and against names that must stand in none.
func tied[A, B comparable](t *testing.T, promise string, j *slots.Bij[A, B], pairs map[A]B, noA []A, noB []B) {
	t.Helper()
	var zeroA A
	var zeroB B
	if j.Len() != len(pairs) {
		t.Errorf("%s: Len = %d; want %d", promise, j.Len(), len(pairs))
	}
	for a, b := range pairs {
		if got, ok := j.To(a); got != b || !ok {
			t.Errorf("%s: To(%v) = %v, %v; want %v, true", promise, a, got, ok, b)
		}
		if got, ok := j.Back(b); got != a || !ok {
			t.Errorf("%s: Back(%v) = %v, %v; want %v, true", promise, b, got, ok, a)
		}
	}
	for _, a := range noA {
		if got, ok := j.To(a); got != zeroB || ok {
			t.Errorf("%s: To(%v) = %v, %v; want nothing", promise, a, got, ok)
		}
	}
	for _, b := range noB {
		if got, ok := j.Back(b); got != zeroA || ok {
			t.Errorf("%s: Back(%v) = %v, %v; want nothing", promise, b, got, ok)
		}
	}
}

func TestExampleOfTies(t *testing.T) {
	j := slots.NewBij[int, string]()
	tied(t, "P3.1", j, nil, []int{0, 1}, []string{"", "p"})
	for _, c := range []struct {
		a  int
		b  string
		ok bool
	}{{1, "p", true}, {2, "q", true}, {1, "p", true}, {1, "r", false}, {3, "q", false}, {1, "q", false}} {
		if ok := j.Tie(c.a, c.b); ok != c.ok {
			t.Errorf("P3.4: Tie(%d, %q) = %v; want %v", c.a, c.b, ok, c.ok)
		}
	}
	tied(t, "P3.4", j, map[int]string{1: "p", 2: "q"}, []int{0, 3}, []string{"", "r"})
	if !j.Cut(1) {
		t.Error("P3.1: Cut(1) = false")
	}
	tied(t, "P3.4", j, map[int]string{2: "q"}, []int{1}, []string{"p"})
	if j.Cut(1) {
		t.Error("P3.1: Cut(1) again = true")
	}
	if !j.Tie(3, "p") {
		t.Error("P3.4: Tie(3, p) behind Cut(1) = false")
	}
	tied(t, "P3.4", j, map[int]string{2: "q", 3: "p"}, []int{1}, []string{"r"})
	tied(t, "P3.4", j.Turn(), map[string]int{"q": 2, "p": 3}, []string{"r"}, []int{1})
}

func TestZeroValuesAreNamesAsOthers(t *testing.T) {
	j := slots.NewBij[int, string]()
	if j.Cut(0) {
		t.Error("P3.1: Cut of a name that stands in no pair = true")
	}
	if !j.Tie(0, "") || j.Tie(0, "a") || j.Tie(1, "") {
		t.Error("P3.4: the pair of zero values is not kept as another is")
	}
	tied(t, "P3.4", j, map[int]string{0: ""}, []int{1}, []string{"a"})
}

func TestTurnIsApart(t *testing.T) {
	j := slots.NewBij[int, string]()
	tied(t, "P3.1", j.Turn(), nil, []string{""}, []int{0})
	j.Tie(1, "p")
	j.Tie(2, "q")
	u := j.Turn()
	j.Cut(1)
	j.Tie(5, "s")
	tied(t, "P3.4", u, map[string]int{"p": 1, "q": 2}, []string{"s"}, []int{5})
	u.Cut("q")
	u.Tie("x", 7)
	tied(t, "P3.4", j, map[int]string{2: "q", 5: "s"}, []int{1, 7}, []string{"p", "x"})
	tied(t, "P3.4", u, map[string]int{"p": 1, "x": 7}, []string{"q", "s"}, []int{2, 5})
}

func TestBothSidesOfOneKind(t *testing.T) {
	j := slots.NewBij[int, int]()
	if !j.Tie(1, 2) || !j.Tie(2, 1) || !j.Tie(3, 3) || j.Tie(3, 1) || j.Tie(4, 3) {
		t.Error("P3.4: a name on one side counts on the other side")
	}
	tied(t, "P3.4", j, map[int]int{1: 2, 2: 1, 3: 3}, []int{4}, []int{4})
}

func TestTiesOfStructsAndArrays(t *testing.T) {
	type name struct {
		kind   int
		serial int64
	}
	j := slots.NewBij[name, [2]int]()
	if !j.Tie(name{1, 9}, [2]int{0, 1}) || j.Tie(name{1, 8}, [2]int{0, 1}) || !j.Tie(name{2, 9}, [2]int{1, 1}) {
		t.Error("P3.4: structs and arrays are told apart field by field")
	}
	tied(t, "P3.4", j, map[name][2]int{{1, 9}: {0, 1}, {2, 9}: {1, 1}}, []name{{1, 8}, {}}, [][2]int{{}, {0, 0}})
	if !j.Cut(name{1, 9}) || !j.Tie(name{1, 8}, [2]int{0, 1}) {
		t.Error("P3.4: what was cut is not free on both sides")
	}
}

// tie does Tie in the plainest way: every pair is looked at.
func tie(pairs map[int]int, a, b int) bool {
	for x, y := range pairs {
		if x == a || y == b {
			return x == a && y == b
		}
	}
	pairs[a] = b
	return true
}

func TestScriptsOfTiesAgainstAModel(t *testing.T) {
	const names = 6
	seed := uint32(7)
	roll := func(n uint32) int {
		seed = seed*1664525 + 1013904223
		return int(seed >> 8 % n)
	}
	pairs := map[int]int{}
	j := slots.NewBij[int, int]()
	for n := range 3000 {
		a, b := roll(names), roll(names)
		if roll(3) == 0 {
			_, want := pairs[a]
			delete(pairs, a)
			if ok := j.Cut(a); ok != want {
				t.Fatalf("P3.1: step %d: Cut(%d) = %v; want %v", n, a, ok, want)
			}
		} else if ok, want := j.Tie(a, b), tie(pairs, a, b); ok != want {
			t.Fatalf("P3.4: step %d: Tie(%d, %d) = %v; want %v", n, a, b, ok, want)
		}
		back := map[int]int{}
		var noA, noB []int
		for x, y := range pairs {
			back[y] = x
		}
		for x := range names {
			if _, ok := pairs[x]; !ok {
				noA = append(noA, x)
			}
			if _, ok := back[x]; !ok {
				noB = append(noB, x)
			}
		}
		tied(t, "P3.4", j, pairs, noA, noB)
		tied(t, "P3.4", j.Turn(), back, noB, noA)
		if t.Failed() {
			t.Fatalf("at step %d", n)
		}
	}
}
