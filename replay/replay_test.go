package replay_test

import (
	"fmt"
	"reflect"
	"slices"
	"testing"

	"amber/api"
	"amber/gate"
	"amber/replay"
	"amber/run"
)

// replays holds a Replay against what it must tell.
func replays(t *testing.T, what string, log []byte, k *gate.Kernel, root int, right int, code api.Errno, want ...api.Event) {
	t.Helper()
	events, n, got := replay.Replay(log, k, root)
	if !slices.Equal(events, want) || n != right || got != code {
		t.Errorf("%s: Replay(.., %d) = %d events %+v .., %d, %d, want %+v, %d, %d", what, root, len(events), events[:min(len(events), 5)], n, got, want, right, code)
	}
}

func TestReplayExamples(t *testing.T) {
	x, y := house(t, emits), house(t, emits)
	log := twoLegs(t, x)
	replays(t, "P21.4: from the beginning", log, y.k, 1, 2, api.OK, sys(2, 14, api.OK, 7), end(2), sys(1, 1, api.OK))
	y.looksAs(t, "P21.4: from the beginning", x.shape())
	replays(t, "P21.1: where it has ended", log, x.k, 1, 0, api.ErrDiverge, none())
	x.looksAs(t, "P21.1: where it has ended", y.shape())
}

func TestReplayRefused(t *testing.T) {
	m := house(t, emits)
	log := twoLegs(t, house(t, emits))
	before := m.shape()
	replays(t, "P21.1: no kernel", log, nil, 1, 0, api.ErrArg)
	replays(t, "P21.1: no kernel, no legs", nil, nil, 1, 0, api.ErrArg)
	replays(t, "P21.1: no kernel, no log", log[:83], nil, 1, 0, api.ErrArg)
	for what, bad := range map[string][]byte{
		"cut":                   log[:83],
		"cut in its first leg":  log[:39],
		"a byte more":           append(slices.Clone(log), 0),
		"its last byte changed": turned(log, 8*len(log)-1, 1),
		"too long":              slices.Concat(log, logOf(slices.Repeat([]api.Leg{{}}, 2728)...)),
	} {
		replays(t, "P21.1: no log: "+what, bad, m.k, 1, 0, api.ErrLog)
		replays(t, "P21.1: no log and no root: "+what, bad, m.k, 9, 0, api.ErrLog)
	}
	for _, root := range []int{9, -1, 16, 1 << 40} {
		replays(t, "P21.1: no root", log, m.k, root, 0, api.ErrEnv)
		replays(t, "P21.1: no root, a leg of nothing", logOf(api.Leg{Sum: 3}), m.k, root, 0, api.ErrEnv)
		replays(t, "P21.1: no root, no legs", nil, m.k, root, 0, api.OK)
		replays(t, "P21.1: no root, no legs", []byte{}, m.k, root, 0, api.OK)
	}
	m.looksAs(t, "P21.1: refused", before)
}

// counts: a guest that counts in r7 and tells it, over and over.
const counts = "addi r7, 1\nmov r1, r7\nsys 14\njmp -4"

// round: the leg of one round of it, and what it tells.
func round(n uint32) (api.Leg, []api.Event) {
	events := []api.Event{sys(3, 14, api.OK, n), end(4)}
	return api.Leg{Picks: picks(0, 4), Sum: ruleDigest(events)}, events
}

// A leg whose run is refused: those ahead of it are done and told, those behind it are not done.
func TestARunIsRefusedOnTheWay(t *testing.T) {
	one, first := round(1)
	two, second := round(2)
	three, _ := round(3)
	for _, bad := range [][]api.Pick{picks(0, 4097), picks(0, 4096, 0, 1), picks(0, 1, 0, 1<<60)} {
		m, want := house(t, counts), house(t, counts)
		run.Run(want.k, 1, picks(0, 8), nil)
		log := logOf(one, two, api.Leg{Picks: bad, Sum: 5}, three)
		replays(t, "P21.1: a run that is refused", log, m.k, 1, 2, api.ErrArg, slices.Concat(first, second)...)
		m.looksAs(t, "P21.1: a run that is refused", want.shape())
		log = logOf(api.Leg{Picks: bad, Sum: 0}, three)
		replays(t, "P21.1: the first run is refused", log, m.k, 1, 0, api.ErrArg)
		m.looksAs(t, "P21.1: the first run is refused", want.shape())
	}
}

// A leg that parts: it is done and told too, those behind it are not done.
func TestALegParts(t *testing.T) {
	one, first := round(1)
	two, second := round(2)
	three, third := round(3)
	legs, told := []api.Leg{one, two, three}, [][]api.Event{first, second, third}
	for at := range legs {
		for _, sum := range []uint32{legs[at].Sum ^ 1, legs[at].Sum ^ 1<<31, 0, legs[(at+1)%3].Sum} {
			m, want := house(t, counts), house(t, counts)
			run.Run(want.k, 1, picks(0, 4*(at+1)), nil)
			spoilt := slices.Clone(legs)
			spoilt[at].Sum = sum
			replays(t, "P21.6: another sum", logOf(spoilt...), m.k, 1, at, api.ErrDiverge, slices.Concat(told[:at+1]...)...)
			m.looksAs(t, "P21.6: another sum", want.shape())
		}
	}
	m := house(t, counts)
	replays(t, "P21.1: all legs", logOf(legs...), m.k, 1, 3, api.OK, slices.Concat(told...)...)
	replays(t, "P21.6: a leg of nothing with a sum", logOf(api.Leg{Sum: 1}, api.Leg{}), m.k, 1, 0, api.ErrDiverge)
	replays(t, "P21.1: legs of nothing", logOf(api.Leg{}, api.Leg{Answers: []uint32{4}}, api.Leg{}), m.k, 1, 3, api.OK)
}

// Each leg has answers of its own: what one leaves another does not find.
func TestAnswersOfALeg(t *testing.T) {
	program := "li r1, 0\nsys 24\njmp -3"
	x, y := house(t, program), house(t, program)
	log := records(t, x, nil, 1, picks(0, 3), []uint32{5, 6, 7}, asked(2, 5), end(3))
	log = records(t, x, log, 1, picks(0, 3), nil, sys(2, 24, api.ErrState), end(3))
	replays(t, "P21.4", log, y.k, 1, 2, api.OK, asked(2, 5), end(3), sys(2, 24, api.ErrState), end(3))
	y.looksAs(t, "P21.4", x.shape())
}

// ruleReplay: the chapter's words, by runs.
func ruleReplay(legs []api.Leg, k *gate.Kernel, root int) ([]api.Event, int, api.Errno) {
	var told []api.Event
	for n, l := range legs {
		events, code := run.Run(k, root, l.Picks, l.Answers)
		if code != api.OK {
			return told, n, code
		}
		told = append(told, events...)
		if ruleDigest(events) != l.Sum {
			return told, n, api.ErrDiverge
		}
	}
	return told, len(legs), api.OK
}

// tampered: legs of which one may have other picks, answers or another sum.
func (d *dice) tampered(legs []api.Leg) []api.Leg {
	l := slices.Clone(legs)
	if len(l) == 0 || d.one(4) {
		return l
	}
	x := &l[d.below(len(l))]
	switch d.below(5) {
	case 0:
		x.Sum ^= 1 << d.below(32)
	case 1:
		x.Picks = d.picks(d.below(5))
	case 2:
		x.Answers = d.answers()
	case 3:
		x.Picks = append(slices.Clone(x.Picks), api.Pick{K: d.number(), Steps: d.number()})
	case 4:
		l = slices.Delete(l, 0, 1)
	}
	return l
}

// poke changes something of a village: a register, a word, a state.
func (v village) poke(d *dice) {
	place := d.below(len(v.tree()))
	env := v.tree()[place]
	x, _ := v.k.Env(env)
	switch d.below(3) {
	case 0:
		x.Regs.R[d.below(8)] ^= 1 << d.below(32)
		v.k.SetRegs(env, x.Regs)
	case 1:
		v.k.Store(env, uint32(d.below(64)), d.word()>>d.below(32))
	case 2:
		v.set(place, d.of(api.Ready, api.Done), 0, x.Regs)
	}
}

// recorded: the legs of some runs of a village.
func (v village) recorded(t *testing.T, d *dice, rounds int) ([]byte, []api.Event) {
	t.Helper()
	var log []byte
	var told []api.Event
	for range rounds {
		longer, events, code := replay.Record(log, v.k, v.root(), d.picks(d.below(8)), d.answers())
		if code != api.OK {
			t.Fatalf("P21.3: Record: %d", code)
		}
		log, told = longer, append(told, events...)
	}
	return log, told
}

// TestReplaysAgainstTheModel: a log that was recorded, tampered with or not, on a tree that is the same or not.
func TestReplaysAgainstTheModel(t *testing.T) {
	codes := map[api.Errno]int{}
	parted := 0
	for seed := range 200 {
		d, e, f := dice(seed), dice(seed), dice(seed)
		x, y, z := newMachine(), newMachine(), newMachine()
		v, w, u := found(t, x.k, &d, quiet), found(t, y.k, &e, quiet), found(t, z.k, &f, quiet)
		log, _ := v.recorded(t, &d, 6)
		legs, _ := ruleDecode(log)
		legs = d.tampered(legs)
		if d.one(2) {
			e, f = d, d
			w.poke(&e)
			u.poke(&f)
		}
		root := w.root()
		events, n, code := replay.Replay(logOf(legs...), y.k, root)
		want, wanted, err := ruleReplay(legs, z.k, root)
		what := fmt.Sprint("P21.6: seed ", seed)
		if !slices.Equal(events, want) || n != wanted || code != err {
			t.Fatalf("%s: Replay = %d events, %d, %d, want %d events, %d, %d", what, len(events), n, code, len(want), wanted, err)
		}
		y.looksAs(t, what, z.shape())
		codes[code]++
		if code == api.ErrDiverge && n > 0 {
			parted++
		}
	}
	if codes[api.OK] < 20 || codes[api.ErrDiverge] < 50 || codes[api.ErrArg] < 5 || parted < 20 {
		t.Errorf("only %v were answered, %d behind legs that went right", codes, parted)
	}
}

func TestNothingIsSharedByReplay(t *testing.T) {
	log := twoLegs(t, house(t, emits))
	given := roomy(log)
	x, y := house(t, emits), house(t, emits)
	first, _, _ := replay.Replay(given, x.k, 1)
	second, _, _ := replay.Replay(given, y.k, 1)
	want := slices.Clone(second)
	over(first, api.Event{Kind: 77})
	if !slices.Equal(second, want) || !kept(given, log) {
		t.Errorf("P21.1: Replay changes what it is given, or answers share memory")
	}
	over(given, 0)
	if !slices.Equal(second, want) || !reflect.DeepEqual(x.k.State(), y.k.State()) {
		t.Errorf("P21.1: Replay keeps what it is given")
	}
}
