package tongue_test

import (
	"slices"
	"testing"

	"amber/api"
	"amber/disk"
	"amber/gate"
	"amber/mem"
	"amber/run"
	"amber/tongue"
)

// Compiled sources, laid into an environment of a kernel and run.

const guest = 1

func do(t *testing.T, k *gate.Kernel, env int, r api.Request) {
	t.Helper()
	if got := k.Call(env, r); got.Code != api.OK {
		t.Fatalf("%d: %s %v: %d", env, gate.Name(r.Call), r.A, got.Code)
	}
}

// laid: a kernel whose environment 1 has the words from address 0 on, zeros behind them, and is ready.
func laid(t *testing.T, words []uint32) *gate.Kernel {
	t.Helper()
	k := gate.Boot(disk.New(), 1)
	do(t, k, 0, api.Request{Call: api.CallSpawn, A: [6]int{api.MaxPages, 0, 0}})
	all := make([]uint32, api.MaxPages*api.PageWords)
	copy(all, words)
	for v := range api.MaxPages {
		do(t, k, guest, api.Request{Call: api.CallAlloc})
		do(t, k, guest, api.Request{Call: api.NatFill, A: [6]int{v}, Data: mem.Pack(api.Page(all[v*api.PageWords:]))})
		do(t, k, guest, api.Request{Call: api.CallMap, A: [6]int{v, v, 1}})
	}
	do(t, k, 0, api.Request{Call: api.CallStart, A: [6]int{0, 0}})
	return k
}

func compiled(t *testing.T, source string) []uint32 {
	t.Helper()
	words, line, code := tongue.Compile(source)
	if code != api.OK || len(words) > api.MaxProgram {
		t.Fatalf("P23.2: Compile(%q): %d words, %d, %d", source, len(words), line, code)
	}
	return words
}

// outOf: the call that an event tells.
func outOf(e api.Event) api.Out {
	o := api.Out{Call: e.Call}
	switch e.Call {
	case api.CallEmit, api.CallExit:
		o.Value = e.A[0]
	case api.CallAsk:
		o.Value = uint32(e.V[0])
	}
	return o
}

// alike: the calls are the same as far as both go.
func alike(a, b []api.Out) bool {
	n := min(len(a), len(b))
	return slices.Equal(a[:n], b[:n])
}

// asMeant holds what a guest did in so many steps against what its source means.
func asMeant(t *testing.T, what string, k *gate.Kernel, made []api.Out, steps int, m api.Meaning) {
	t.Helper()
	e, _ := k.Env(guest)
	bound := api.MaxProgram * (m.Used + 1)
	if !alike(made, m.Outs) {
		t.Fatalf("%s: the guest calls %v, it is meant to call %v", what, made, m.Outs)
	}
	over := steps >= bound || e.State != api.Ready || len(made) > len(m.Outs) // it has gone as far as is meant, or further
	if m.State != api.Ready && over && (e.State != m.State || e.Code != m.Code || len(made) != len(m.Outs)) {
		t.Fatalf("%s: behind %d steps the guest is %d with %d and has made %d calls, want %+v", what, steps, e.State, e.Code, len(made), m)
	}
	if m.State == api.Ready && over && len(made) < len(m.Outs) {
		t.Fatalf("%s: behind %d steps the guest has made %d calls, want %+v", what, steps, len(made), m)
	}
}

// TestGuestsStepByStep: the calls, and at each of them what lies where the variables lie.
func TestGuestsStepByStep(t *testing.T) {
	calls, looked, faults := 0, 0, 0
	for seed := range 500 {
		d := dice(seed)
		s := grown(&d)
		text := d.dressed(s.tokens())
		answers := d.words(9)
		b := s.lived(answers, 25)
		k := laid(t, compiled(t, text))
		var made []api.Out
		left, steps := answers, 0
		for k.Runs(guest) && steps < api.MaxProgram*(b.Used+1) && len(made) <= len(b.Outs) {
			e, taken := run.Step(k, guest, left)
			steps++
			left = left[taken:]
			if e.Kind != api.EvSys {
				continue
			}
			if made = append(made, outOf(e)); len(made) <= len(b.seen) {
				s.holds(t, k, text, b.seen[len(made)-1])
				looked++
			}
		}
		if m := evaluated(t, "P23.2", text, answers, 25); !same(m, b.Meaning) {
			t.Fatalf("P23.1: Eval(%q, %v, 25) = %+v, want %+v", text, answers, m, b.Meaning)
		}
		asMeant(t, "P23.2: "+text, k, made, steps, b.Meaning)
		calls += len(made)
		if b.State == api.Faulted {
			faults++
		}
	}
	if calls < 1000 || looked < 1000 || faults < 20 {
		t.Errorf("only %d calls, %d looks, %d faults", calls, looked, faults)
	}
}

// holds: the guest's words from each variable's address on are its value.
func (s source) holds(t *testing.T, k *gate.Kernel, text string, values []uint32) {
	t.Helper()
	names, places, _ := tongue.Data(text)
	for i, v := range s.decls {
		for j := range v.words() {
			w, code := k.Load(guest, uint32(places[i]+j))
			if w != values[0] || code != api.OK {
				t.Fatalf("P23.3: %q: word %d of %s is %d, %d, want %d", text, j, names[i], w, code, values[0])
			}
			values = values[1:]
		}
	}
}

// picks: some, that let the guest go by pieces of all sizes, and others that pick nobody.
func (d *dice) picks() []api.Pick {
	var l []api.Pick
	for range 1 + d.below(4) {
		l = append(l, api.Pick{K: d.below(8) / 7, Steps: []int{1, 2, 1 + d.below(9), 1 + d.below(900), 0}[d.below(5)]})
	}
	return l
}

// TestGuestsByAnyPicks: over several runs, each handed the answers that those ahead have left.
func TestGuestsByAnyPicks(t *testing.T) {
	ended, resting := 0, 0
	for seed := range 800 {
		d := dice(seed + 5000)
		text := d.dressed(grown(&d).tokens())
		answers := d.words(9)
		m := evaluated(t, "P23.2", text, answers, 20+d.below(30))
		k := laid(t, compiled(t, text))
		var made []api.Out
		left, steps := answers, 0
		for k.Runs(guest) && steps < api.MaxProgram*(m.Used+1) && len(made) < 300 {
			picks := d.picks()
			events, code := run.Run(k, guest, picks, left)
			if code != api.OK {
				t.Fatalf("Run: %d", code)
			}
			for _, e := range events {
				if e.Kind == api.EvSys {
					made = append(made, outOf(e))
				}
				if e.Kind == api.EvSys && e.Call == api.CallAsk && e.Code == api.OK {
					left = left[1:]
				}
				if e.Kind != api.EvSys || e.Call == api.CallYield || e.Call == api.CallExit {
					steps += e.Steps // the pick ended so
				}
			}
		}
		asMeant(t, "P23.2: "+text, k, made, steps, m)
		if k.Runs(guest) {
			resting++
		} else {
			ended++
		}
	}
	if ended < 300 || resting < 20 {
		t.Errorf("only %d guests have ended, %d go on", ended, resting)
	}
}

// TestGuestsOfTheExamples: guests that end in each way, and what each is then.
func TestGuestsOfTheExamples(t *testing.T) {
	for _, c := range []struct {
		source  string
		answers []uint32
	}{
		{"", nil}, {"emit 2 + 3 * 4;", nil}, {"var n; n = 3; while n { emit n; n = n - 1; } stop 9;", nil},
		{"var a[3]; a[ask] = ask; emit a[1];", []uint32{1, 5}}, {"var a[3]; a[ask] = ask; emit a[1];", []uint32{7}}, {"var a[3]; a[ask] = ask; emit a[1];", nil},
		{"emit 1 / ask;", nil}, {"emit 1 % ask;", []uint32{0}}, {"emit 0 && 1 / 0; emit 2 || 1 / 0; emit 0xff << 32; emit -1 > 1;", nil},
		{"yield; emit ask; yield; emit ask; stop 4294967295;", []uint32{4294967295}}, {n("emit 1;", 126) + "yield;", nil},
		{"var a[96]; a[95] = 7; emit a[95]; a[96] = 1;", nil}, {"emit 1 + (2 + (3 + (4 + (5 + (6 + (7 + 8))))));", nil},
		{"var a[1]; a[0] = 1 + (2 + (3 + (4 + (5 + (6 + (7 + 8)))))); emit a[0];", nil}, {n("{", 16) + "emit 70000;" + n("}", 16), nil},
	} {
		m := evaluated(t, "P23.2", c.source, c.answers, 1000)
		k := laid(t, compiled(t, c.source))
		var made []api.Out
		left, steps := c.answers, 0
		for k.Runs(guest) && steps <= api.MaxProgram*(m.Used+1) {
			e, taken := run.Step(k, guest, left)
			steps++
			left = left[taken:]
			if e.Kind == api.EvSys {
				made = append(made, outOf(e))
			}
		}
		e, _ := k.Env(guest)
		if m.State == api.Ready || e.State != m.State || e.Code != m.Code || !slices.Equal(made, m.Outs) || len(left) != len(c.answers)-m.Taken || steps > api.MaxProgram*(m.Used+1) {
			t.Errorf("P23.2: %q: the guest is %d, %d behind %d steps and %v, want %+v", c.source, e.State, e.Code, steps, made, m)
		}
	}
}
