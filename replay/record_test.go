package replay_test

import (
	"bytes"
	"fmt"
	"reflect"
	"slices"
	"testing"

	"amber/api"
	"amber/gate"
	"amber/replay"
	"amber/run"
)

// records: a Record that must be done, and tell just these events; the log with one leg more.
func records(t *testing.T, m machine, log []byte, root int, p []api.Pick, answers []uint32, want ...api.Event) []byte {
	t.Helper()
	got, events, code := replay.Record(log, m.k, root, p, answers)
	if code != api.OK || !slices.Equal(events, want) {
		t.Fatalf("P21.3: Record(%d, %v, %v) = %+v, %d, want %+v", root, p, answers, events, code, want)
	}
	leg := legOf(api.Leg{Picks: p, Answers: answers, Sum: ruleDigest(want)})
	if !bytes.Equal(got, slices.Concat(log, leg)) {
		t.Fatalf("P21.3: Record(%d, %v, %v): the log is % x, want % x, then % x", root, p, answers, got, log, leg)
	}
	return got
}

// twoLegs: the log of the chapter's first example.
func twoLegs(t *testing.T, m machine) []byte {
	t.Helper()
	log := records(t, m, nil, 1, picks(0, 2), nil, sys(2, 14, api.OK, 7), end(2))
	if len(log) != 40 {
		t.Fatalf("P21.3: the first leg has %d bytes", len(log))
	}
	log = records(t, m, log, 1, picks(0, 5), []uint32{9}, sys(1, 1, api.OK))
	if len(log) != 84 {
		t.Fatalf("P21.3: both legs have %d bytes", len(log))
	}
	return log
}

func TestRecordExamples(t *testing.T) {
	m := house(t, emits)
	log := twoLegs(t, m)
	if x := look(t, m.k, 1); x.State != api.Done || x.Regs.PC != 3 {
		t.Errorf("P21.3: %+v", x)
	}
	decodes(t, "the first example", log, []api.Leg{
		{Picks: picks(0, 2), Sum: ruleDigest([]api.Event{sys(2, 14, api.OK, 7), end(2)})},
		{Picks: picks(0, 5), Answers: []uint32{9}, Sum: ruleDigest([]api.Event{sys(1, 1, api.OK)})},
	})
}

// Runs in which little happens are legs all the same.
func TestRecordOfLittle(t *testing.T) {
	m := house(t, "jmp -1")
	log := records(t, m, nil, 1, nil, nil)
	log = records(t, m, log, 1, picks(0, 0), nil, none())
	log = records(t, m, log, 1, nil, []uint32{1, 2, 3})
	log = records(t, m, log, 0, picks(1, 4), nil, api.Event{Kind: api.EvEnd, K: 1, Steps: 4})
	records(t, m, log, 1, picks(-3, 4), nil, api.Event{K: -3})
}

// All answers are written down, those that nobody took too.
func TestAnswersThatAreLeft(t *testing.T) {
	m := house(t, "li r1, 0\nsys 24\njmp -3")
	first, second := []api.Event{asked(2, 5), asked(5, 6), end(6)}, []api.Event{asked(2, 9), sys(5, 24, api.ErrState), end(5)}
	log := records(t, m, nil, 1, picks(0, 6), []uint32{5, 6, 7, 8}, first...)
	log = records(t, m, log, 1, picks(0, 5), []uint32{9}, second...)
	decodes(t, "answers that are left", log, []api.Leg{
		{Picks: picks(0, 6), Answers: []uint32{5, 6, 7, 8}, Sum: ruleDigest(first)},
		{Picks: picks(0, 5), Answers: []uint32{9}, Sum: ruleDigest(second)},
	})
}

func TestRecordRefused(t *testing.T) {
	m := house(t, emits)
	log := twoLegs(t, house(t, emits))
	spoilt := turned(log, 170, 5)
	full := logOf(slices.Repeat([]api.Leg{{}}, 2730)...) // 65520 bytes
	far, long := make([]api.Pick, 4096), picks(0, 4097)
	cases := []struct {
		what    string
		log     []byte
		k       *gate.Kernel
		root    int
		picks   []api.Pick
		answers []uint32
		code    api.Errno
	}{
		{"no kernel", nil, nil, 1, picks(0, 2), nil, api.ErrArg},
		{"no kernel, no log, no room, no root", spoilt, nil, 9, far, nil, api.ErrArg},
		{"no log, no room, no root", spoilt, m.k, 9, far, nil, api.ErrLog},
		{"no log", spoilt, m.k, 1, picks(0, 2), nil, api.ErrLog},
		{"a log that is cut", log[:83], m.k, 1, picks(0, 2), nil, api.ErrLog},
		{"a log that is too long", logOf(slices.Repeat([]api.Leg{{}}, 2731)...), m.k, 1, nil, nil, api.ErrLog},
		{"no room, no root", nil, m.k, 9, far, nil, api.ErrNoSpace},
		{"no room, picks that are too many", nil, m.k, 1, far, nil, api.ErrNoSpace},
		{"no room, a pick that is too long", full, m.k, 1, long, nil, api.ErrNoSpace},
		{"no room for a leg of nothing", full, m.k, 1, nil, nil, api.ErrNoSpace},
		{"no room for picks", nil, m.k, 1, make([]api.Pick, 4095), nil, api.ErrNoSpace},
		{"no room for answers", nil, m.k, 1, nil, make([]uint32, 16379), api.ErrNoSpace},
		{"no room for an answer more", nil, m.k, 1, make([]api.Pick, 4094), make([]uint32, 3), api.ErrNoSpace},
		{"no room behind a log", log, m.k, 1, make([]api.Pick, 4090), nil, api.ErrNoSpace},
		{"far too many picks", nil, m.k, 1, make([]api.Pick, 1<<20), make([]uint32, 1<<20), api.ErrNoSpace},
		{"no root", nil, m.k, 9, picks(0, 2), nil, api.ErrEnv},
		{"no root, a pick that is too long", log, m.k, -1, long, nil, api.ErrEnv},
		{"a pick that is too long", nil, m.k, 1, long, nil, api.ErrArg},
		{"picks that are too long together", log, m.k, 1, picks(0, 4096, 0, 1), nil, api.ErrArg},
	}
	before := m.shape()
	for _, c := range cases {
		b, events, code := replay.Record(c.log, c.k, c.root, c.picks, c.answers)
		if b != nil || len(events) != 0 || code != c.code {
			t.Errorf("P21.1: %s: Record = %d bytes, %d events, %d, want nil, none, %d", c.what, len(b), len(events), code, c.code)
		}
		m.looksAs(t, "P21.1: refused: "+c.what, before)
	}
}

// With just enough room it is done.
func TestTheLastRoomOfALog(t *testing.T) {
	cases := []struct {
		log     []byte
		picks   []api.Pick
		answers []uint32
	}{
		{nil, make([]api.Pick, 4094), make([]uint32, 2)},
		{nil, nil, make([]uint32, 16378)},
		{logOf(slices.Repeat([]api.Leg{{}}, 2729)...), picks(0, 2), nil},
		{logOf(slices.Repeat([]api.Leg{{}}, 2729)...), nil, make([]uint32, 4)},
		{logOf(api.Leg{Picks: make([]api.Pick, 4092), Answers: make([]uint32, 4)}), nil, nil},
	}
	for i, c := range cases {
		m := house(t, emits)
		log, _, code := replay.Record(c.log, m.k, 1, c.picks, c.answers)
		if code != api.OK || len(log) != len(c.log)+24+16*len(c.picks)+4*len(c.answers) || !bytes.HasPrefix(log, c.log) {
			t.Errorf("P21.1: %d: Record = %d bytes, %d", i, len(log), code)
		}
		if got, code := replay.Decode(log); code != api.OK || len(got) == 0 || !slices.Equal(got[len(got)-1].Picks, c.picks) {
			t.Errorf("P21.3: %d: what Record told is no log: %d", i, code)
		}
	}
}

// TestARecordIsTheRun: two villages alike; the one is recorded, the other runs.
func TestARecordIsTheRun(t *testing.T) {
	told, refused := 0, 0
	for seed := range 60 {
		d, e := dice(seed), dice(seed)
		x, y := newMachine(), newMachine()
		v, w := found(t, x.k, &d, quiet), found(t, y.k, &e, quiet)
		var log []byte
		for round := range 8 {
			what := fmt.Sprintf("P21.3: seed %d, round %d", seed, round)
			root := d.of(v.root(), v.root(), v.root(), v.root(), 0, 0, d.of(15, -1))
			p, answers := d.picks(d.below(9)), d.answers()
			if d.one(9) {
				p = append(p, api.Pick{Steps: 4097})
			}
			given, gave := slices.Clone(p), slices.Clone(answers)
			longer, events, code := replay.Record(log, x.k, root, p, answers)
			want, wanted := run.Run(y.k, root, p, answers)
			if code != wanted || !slices.Equal(events, want) {
				t.Fatalf("%s: Record(%d, %v, %v) = %+v, %d, want %+v, %d", what, root, p, answers, events, code, want, wanted)
			}
			if !slices.Equal(p, given) || !slices.Equal(answers, gave) {
				t.Fatalf("%s: Record changes what it is given", what)
			}
			x.looksAs(t, what, y.shape())
			if code == api.OK {
				leg := api.Leg{Picks: p, Answers: answers, Sum: ruleDigest(events)}
				if !bytes.Equal(longer, slices.Concat(log, legOf(leg))) {
					t.Fatalf("%s: the log is % x", what, longer)
				}
				log, told = longer, told+len(events)
			} else if refused++; longer != nil {
				t.Fatalf("%s: refused (%d), but a log is told", what, code)
			}
			e = d
			v.wake(&d)
			w.wake(&e)
		}
	}
	if told < 3000 || refused < 30 {
		t.Errorf("only %d events were told, %d runs refused", told, refused)
	}
}

func TestNothingIsSharedByRecord(t *testing.T) {
	m := house(t, "sys 24\njmp -2")
	log := records(t, m, nil, 1, picks(0, 2), []uint32{4}, asked(1, 4), end(2))
	given, p, answers := roomy(log), picks(0, 1), []uint32{6, 7}
	before, _, _ := replay.Record(given, house(t, emits).k, 1, p, answers)
	longer, events, code := replay.Record(given, m.k, 1, p, answers)
	if code != api.OK || !kept(given, log) {
		t.Fatalf("P21.1: Record changes what it is given: %d", code)
	}
	want := logOf(api.Leg{Picks: picks(0, 1), Answers: []uint32{6, 7}, Sum: ruleDigest(events)})
	over(p, api.Pick{K: 77, Steps: 77})
	over(answers, 77)
	over(given, 0x77)
	over(before, 0x77)
	if !bytes.Equal(longer, slices.Concat(log, want)) {
		t.Errorf("P21.1: Record keeps what it is given, or answers share memory")
	}
	over(longer, 0x5A)
	if !bytes.Equal(given, bytes.Repeat([]byte{0x77}, len(given))) {
		t.Errorf("P21.1: what Record tells is not new memory")
	}
}

// Two kernels know nothing of one another, and nothing is kept from call to call.
func TestNothingIsKeptByRecord(t *testing.T) {
	x, y := house(t, emits), house(t, emits)
	first := twoLegs(t, x)
	if second := twoLegs(t, y); !bytes.Equal(first, second) || !reflect.DeepEqual(x.k.State(), y.k.State()) {
		t.Errorf("P21.1: the same recording has another outcome the second time")
	}
}
