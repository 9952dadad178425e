package tongue_test

import (
	"slices"
	"strings"
	"testing"

	"amber/api"
	"amber/isa"
	"amber/tongue"
)

// TestGrownSources: what is made of a source is what its tree says.
func TestGrownSources(t *testing.T) {
	ends := map[int]int{}
	calls := 0
	for seed := range 2000 {
		d := dice(seed)
		s := grown(&d)
		text := d.dressed(s.tokens())
		want := strings.Join(s.code(), "\n") + "\n"
		if list, line, code := tongue.Listing(text); list != want || line != 0 || code != api.OK {
			t.Fatalf("P23.1: seed %d: Listing(%q) =\n%s%d, %d, want\n%s", seed, text, list, line, code, want)
		}
		words, line, code := tongue.Compile(text)
		if again, _, _ := isa.Assemble(want); !slices.Equal(words, again) || line != 0 || code != api.OK {
			t.Fatalf("P23.1: seed %d: Compile(%q) = %v, %d, %d, want %v", seed, text, words, line, code, again)
		}
		if plain, line, code := tongue.Format(text); plain != s.plain() || line != 0 || code != api.OK {
			t.Fatalf("P23.1: seed %d: Format(%q) = %q, %d, %d, want %q", seed, text, plain, line, code, s.plain())
		}
		s.liesWhere(t, text)
		answers := d.words(8)
		for _, fuel := range []int{0, 1, d.below(40), d.below(400), 2000} {
			b := s.lived(answers, fuel)
			means(t, "P23.1", text, answers, fuel, b.Meaning)
			ends[b.State]++
			calls += len(b.Outs)
		}
		if t.Failed() {
			t.Fatalf("seed %d", seed)
		}
	}
	if ends[api.Ready] < 1000 || ends[api.Done] < 1000 || ends[api.Faulted] < 200 || calls < 20000 {
		t.Errorf("too few ends of a kind: %v; %d calls", ends, calls)
	}
}

// liesWhere holds what Data tells against the declarations.
func (s source) liesWhere(t *testing.T, text string) {
	t.Helper()
	names, places, code := tongue.Data(text)
	if code != api.OK || len(names) != len(s.decls) || len(places) != len(s.decls) {
		t.Fatalf("P23.1: Data(%q) = %v, %v, %d", text, names, places, code)
	}
	for i, v := range s.decls {
		if names[i] != v.name || places[i] != v.at {
			t.Fatalf("P23.1: Data(%q) = %v, %v", text, names, places)
		}
	}
}

// TestPlainChangesNothing: the plain form is taken, is its own plain form, and says what the source says.
func TestPlainChangesNothing(t *testing.T) {
	for seed := range 800 {
		d := dice(seed)
		text := d.dressed(grown(&d).tokens())
		plainLaw(t, text, d.words(6))
	}
	name := "abcdefghijklmnop"
	blocks := func(inner string) string {
		return n("{", 15) + inner + n("}", 15)
	}
	var declared strings.Builder
	for i := range 96 {
		declared.WriteString("var " + name[:14] + string(rune('a'+i/26)) + string(rune('a'+i%26)) + "[1];")
	}
	for _, source := range []string{
		declared.String() + blocks(n("{}", 364)), declared.String() + n("while 1 {", 16) + n("continue;", 331) + n("}", 16),
		"var " + name + ";" + n("if 1 {", 16) + n(name+"="+name+";", 173) + n("}", 16),
		declared.String() + blocks("if 1 {} else {}"+n("if 1 {} else if 1 {}", 70)),
	} {
		plainLaw(t, source, nil)
	}
}

func plainLaw(t *testing.T, source string, answers []uint32) {
	t.Helper()
	plain, _, code := tongue.Format(source)
	again, _, code2 := tongue.Format(plain)
	if code != api.OK || code2 != api.OK || again != plain || len(plain) > api.MaxText {
		t.Fatalf("P23.4: Format(%.200q) = %q (%d bytes), %d; of that %q, %d", source, plain, len(plain), code, again, code2)
	}
	words, _, _ := tongue.Compile(source)
	words2, _, _ := tongue.Compile(plain)
	names, places, _ := tongue.Data(source)
	names2, places2, _ := tongue.Data(plain)
	if !slices.Equal(words, words2) || !slices.Equal(names, names2) || !slices.Equal(places, places2) {
		t.Fatalf("P23.4: %.200q and %q are compiled to other words or lie elsewhere", source, plain)
	}
	for _, fuel := range []int{0, 3, 17, 300} {
		means(t, "P23.4", plain, answers, fuel, evaluated(t, "P23.4", source, answers, fuel))
	}
}

// TestMoreFuelGoesOn: from each unit to the next, and from each to a great store of them.
func TestMoreFuelGoesOn(t *testing.T) {
	rests := 0
	for seed := range 300 {
		d := dice(seed)
		text := d.dressed(grown(&d).tokens())
		answers := d.words(9)
		most := evaluated(t, "P23.5", text, answers, 4000)
		less := evaluated(t, "P23.5", text, answers, 0)
		for fuel := 1; fuel < 60; fuel++ {
			more := evaluated(t, "P23.5", text, answers, fuel)
			for _, m := range []api.Meaning{more, most} {
				if len(m.Outs) < len(less.Outs) || !slices.Equal(m.Outs[:len(less.Outs)], less.Outs) {
					t.Fatalf("P23.5: %q with fuel %d tells %v, with more %v", text, fuel-1, less.Outs, m.Outs)
				}
				if less.State != api.Ready && !same(m, less) {
					t.Fatalf("P23.5: %q with fuel %d is %+v, with more %+v", text, fuel-1, less, m)
				}
			}
			if less.State == api.Ready {
				rests++
				if less.Used != fuel-1 || less.Code != 0 {
					t.Fatalf("P23.1: %q rests with fuel %d: %+v", text, fuel-1, less)
				}
			}
			less = more
		}
	}
	if rests < 1000 {
		t.Errorf("only %d rests", rests)
	}
}

// TestNothingIsShared: what was answered may be changed, what was handed in is not, and the next answer is the same.
func TestNothingIsShared(t *testing.T) {
	const source = "var a; var b[3]; a = ask; b[1] = ask; emit a + b[1]; emit ask;"
	answers := []uint32{3, 4, 5, 6}
	handed := answers[:3]
	m := evaluated(t, "P23.1", source, handed, 50)
	means(t, "P23.1", source, handed, 50, m)
	if !slices.Equal(answers, []uint32{3, 4, 5, 6}) {
		t.Errorf("P23.1: the answers are changed: %v", answers)
	}
	want := outs(24, 3, 24, 4, 14, 7, 24, 5, 14, 5, 1, 0)
	answers[0], answers[2] = 90, 91
	if !slices.Equal(m.Outs, want) || m.Taken != 3 {
		t.Errorf("P23.1: the answers are kept: %+v", m)
	}
	words, _, _ := tongue.Compile(source)
	names, places, _ := tongue.Data(source)
	kept, keptNames, keptPlaces := slices.Clone(words), slices.Clone(names), slices.Clone(places)
	clear(words[:cap(words)])
	clear(names[:cap(names)])
	clear(places[:cap(places)])
	clear(m.Outs[:cap(m.Outs)])
	words, _, _ = tongue.Compile(source)
	names, places, _ = tongue.Data(source)
	if !slices.Equal(words, kept) || !slices.Equal(names, keptNames) || !slices.Equal(places, keptPlaces) {
		t.Errorf("P23.1: a second answer is another: %v, %v, %v", words, names, places)
	}
	means(t, "P23.1", source, []uint32{3, 4, 5}, 50, api.Meaning{Outs: want, State: 3, Taken: 3, Used: 7})
}
