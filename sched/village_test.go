package sched_test

import (
	"fmt"
	"math"
	"reflect"
	"slices"
	"strconv"
	"strings"
	"testing"

	"amber/api"
	"amber/audit"
	"amber/disk"
	"amber/gate"
	"amber/isa"
	"amber/mem"
	"amber/run"
	"amber/sched"
)

// Guests that do whatever they may: they make, start, wake, kill and share, ask, yield, wait, fault and end.

// village: a tree of guests in a kernel, known by its root.
type village struct {
	k    *gate.Kernel
	root int
}

// arguments: what the guests' calls ask for, by number.
var arguments = []string{
	"", "code", "", "v slot write", "v", "slot rights", "slot es rights", "slot", "slot", "f e x", "es pc", "es bits", "", "es", "value",
	"slot", "slot sector v", "slot sector v", "v write", "es v slot write", "", "es", "es r value", "es r", "",
}

// found builds a village by the dice: the same dice, the same village.
func found(t *testing.T, seed int) village {
	t.Helper()
	d := dice(seed)
	v := village{gate.Boot(disk.New(), 1+seed%5), 0}
	lodger(t, v.k, 0, spin) // a neighbour
	do(t, v.k, 0, api.CallSpawn, 44, 10, 0)
	v.root = 2
	v.settle(t, &d, 0)
	for range 2 + d.below(3) {
		parent := 0
		if d.below(3) == 0 {
			parent = d.below(len(v.tree()))
		}
		r := v.k.Call(v.root, request(api.NatNew, -1, parent, 7, 1, 0))
		if r.Code == api.OK {
			v.settle(t, &d, r.V[0])
		}
	}
	for place := range v.tree() {
		for at := 2; at < 5; at++ {
			do(t, v.k, v.root, api.NatSelf, -1, d.below(len(v.tree())), place, at, d.of(15, 15, 15, 7, 3))
		}
	}
	return v
}

func (v village) tree() []int {
	tree, _ := v.k.Tree(v.root)
	return tree
}

// settle gives the environment at a place a page of program and a page to write to, and lets it go.
func (v village) settle(t *testing.T, d *dice, place int) {
	t.Helper()
	env := v.tree()[place]
	for slot := range 2 {
		do(t, v.k, env, api.CallAlloc)
		do(t, v.k, env, api.CallMap, slot, slot, 1)
	}
	v.k.Call(env, api.Request{Call: api.NatFill, A: [6]int{0}, Data: mem.Pack(d.program())})
	v.wake(d, place)
}

// wake makes the one at a place Ready, with its program mapped, from anywhere on.
func (v village) wake(d *dice, place int) {
	v.k.Call(v.root, request(api.NatMapIn, -1, place, 0, 0, 1))
	state := make([]byte, 36)
	state[32] = byte(d.below(8))
	v.k.Call(v.root, api.Request{Call: api.NatSet, A: [6]int{-1, place, api.Ready}, Data: state})
}

// stir does what a script does between drives: it wakes some that stopped, and turns flags.
func (v village) stir(d *dice) {
	for place, env := range v.tree() {
		if x, _ := v.k.Env(env); x.State != api.Ready && d.below(4) > 0 {
			v.wake(d, place)
		}
		if turn := d.below(10); turn < 3 {
			v.k.Call(v.root, request(api.NatFreeze, -1, place, turn/2))
		}
	}
}

// program: blocks of instructions on one page, most of which can be done, and a jump back at its end.
func (d *dice) program() api.Page {
	var out []uint32
	for len(out) < api.PageWords-1 {
		words, line, code := isa.Assemble(d.block())
		if code != api.OK {
			panic(fmt.Sprint("no block: line ", line, ": ", code))
		}
		out = append(out, words...)
	}
	back, _ := isa.Encode(api.Instr{Op: 21, Imm: -api.PageWords})
	return api.Page(append(out[:api.PageWords-1], back))
}

func (d *dice) block() string {
	r := func() string { return "r" + strconv.Itoa(d.below(8)) }
	switch d.below(11) {
	case 0:
		return fmt.Sprintf("li r6, %d\nst %s, r6, %d", 31+d.below(32), r(), d.of(0, 1, -3))
	case 1:
		return fmt.Sprintf("%s %s, %s", []string{"add", "sub", "xor", "mov", "div"}[d.below(5)], r(), r())
	case 2:
		return fmt.Sprintf("%s %s, %d", []string{"jz", "jnz"}[d.below(2)], r(), d.below(4))
	case 3:
		// A child is made, given the program, and started.
		return fmt.Sprintf("li r1, 1\nli r2, 0\nli r3, 0\nsys 9\nmov r6, r1\nmov r2, r1\nli r1, 0\nli r3, 3\nsys 6\nmov r1, r6\nli r2, 0\nli r3, 0\nli r4, 0\nsys 19\nmov r1, r6\nli r2, %d\nsys 10", d.below(32))
	case 4, 5:
		return "sys 24\nmov r7, r1"
	case 6:
		return "sys 0"
	}
	return d.call()
}

// call: a system call and what it asks for; those that end things are rarer.
func (d *dice) call() string {
	call := d.below(25)
	if (call == 1 || call == 4 || call == 7 || call == 8) && d.below(3) > 0 {
		call = d.of(9, 11, 11, 12, 13, 24)
	}
	var b strings.Builder
	for i, name := range strings.Fields(arguments[call]) {
		fmt.Fprintf(&b, "li r%d, %d\n", i+1, d.argument(name))
	}
	fmt.Fprint(&b, "sys ", call)
	return b.String()
}

func (d *dice) argument(name string) int {
	switch name {
	case "slot":
		return d.below(6)
	case "es":
		return d.of(2, 3, 4, 4, 5)
	case "rights":
		return d.of(15, 7, 3, 1)
	case "write", "e", "x":
		return d.below(2)
	case "v":
		return d.of(0, 1, 1, 2)
	case "r":
		return d.below(9)
	}
	return d.below(6)
}

func (d *dice) answers() []uint32 {
	var l []uint32
	for range d.below(7) {
		l = append(l, uint32(d.of(0, 1, 2, 7, math.MaxUint32)))
	}
	return l
}

// running: the environments of the tree that are Ready with no flag at or above them, told from the state alone: their serials, and their places by serial.
func (v village) running() ([]int, map[int]int) {
	envs := map[int]api.Env{}
	for _, x := range v.k.State().Envs {
		envs[x.Num] = x.Env
	}
	var ready []int
	places := map[int]int{}
	for place, env := range v.tree() {
		runs := envs[env].State == api.Ready
		for above := env; above >= 0; above = envs[above].Parent {
			runs = runs && !envs[above].Frozen
		}
		if runs {
			ready = append(ready, envs[env].Serial)
			places[envs[env].Serial] = place
		}
	}
	return ready, places
}

// byHand: a drive once more, as the runs of its turns.
func (v village) byHand(t *testing.T, p *sched.Plan, turns, quantum int, answers []uint32) ([]api.Event, []int) {
	t.Helper()
	var all []api.Event
	var chosen []int
	for range turns {
		ready, places := v.running()
		if len(ready) == 0 {
			break
		}
		serial, code := p.Next(ready)
		if code != api.OK {
			t.Fatalf("P24.6: Next(%v): %d", ready, code)
		}
		events, code := run.Run(v.k, v.root, []api.Pick{{K: places[serial], Steps: quantum}}, answers)
		if code != api.OK || len(events) == 0 || events[0].Kind == api.EvNone {
			t.Fatalf("P24.6: the turn of %d tells %+v, %d", serial, events, code)
		}
		for _, e := range events {
			if e.Kind == api.EvSys && e.Call == api.CallAsk && e.Code == api.OK {
				answers = answers[1:]
			}
		}
		all, chosen = append(all, events...), append(chosen, serial)
	}
	return all, chosen
}

// tally: what guests did in all drives, so that a test is known to have met it.
type tally struct {
	calls                      [api.GuestCalls]int
	faults, ends, early, asked int
}

func (c *tally) add(events []api.Event, cut bool) {
	for _, e := range events {
		switch {
		case e.Kind == api.EvFault:
			c.faults++
		case e.Kind == api.EvEnd:
			c.ends++
		case e.Code == api.OK:
			c.calls[e.Call]++
		case e.Call == api.CallAsk:
			c.asked++
		}
	}
	if cut {
		c.early++
	}
}

// TestADriveIsItsRuns: a village driven, and its twin run turn by turn by a plan of the same past.
func TestADriveIsItsRuns(t *testing.T) {
	var met tally
	for seed := range 150 {
		v, twin := found(t, seed), found(t, seed)
		kind := kinds[seed%3]
		p, q := newPlan(t, kind), newPlan(t, kind)
		d := dice(1000 + seed)
		for drive := range 8 {
			where := fmt.Sprintf("seed %d, drive %d", seed, drive)
			turns, quantum, answers := d.below(24), 1+d.below(30), d.answers()
			if d.below(3) == 0 && len(p.Told()) > 0 {
				serial, weight := p.Told()[d.below(len(p.Told()))].Serial, 1+d.below(8)
				p.Set(serial, weight)
				q.Set(serial, weight)
			}
			ready, _ := v.running()
			readies(t, v.k, v.root, ready...)
			events, chosen, code := sched.Drive(v.k, p, v.root, turns, quantum, answers)
			wantEvents, wantChosen := twin.byHand(t, q, turns, quantum, answers)
			if code != api.OK || !slices.Equal(events, wantEvents) || !slices.Equal(chosen, wantChosen) {
				t.Fatalf("P24.6: %s: %+v, %v, %d, want %+v, %v", where, events, chosen, code, wantEvents, wantChosen)
			}
			if now := v.k.State(); !reflect.DeepEqual(now, twin.k.State()) || len(audit.Check(now)) > 0 {
				t.Fatalf("P24.6: %s: the kernel is another than behind the runs, or breaks %v", where, audit.Check(now))
			}
			if !slices.Equal(p.Told(), q.Told()) {
				t.Fatalf("P24.6: %s: the plan tells %v, want %v", where, p.Told(), q.Told())
			}
			met.add(events, len(chosen) < turns)
			again := d
			v.stir(&d)
			twin.stir(&again)
		}
	}
	for _, call := range []int{api.CallYield, api.CallExit, api.CallSpawn, api.CallStart, api.CallNotify, api.CallWait, api.CallKill, api.CallAsk} {
		if met.calls[call] < 20 {
			t.Errorf("P24.6: only %d times a guest could %s", met.calls[call], gate.Name(call))
		}
	}
	if met.faults < 20 || met.ends < 20 || met.early < 20 || met.asked < 20 {
		t.Errorf("P24.6: too little happens: %+v", met)
	}
}

// TestNoArgumentPanics: all calls at numbers of all kinds.
func TestNoArgumentPanics(t *testing.T) {
	odd := []int{math.MinInt, math.MinInt + 1, -1 << 32, -1, 0, 1, 2, 3, 8, 9, 15, 16, 63, 64, 65, 4095, 4096, 4097, 1 << 32, 1 << 62, math.MaxInt - 1, math.MaxInt}
	k := street(t, "sys 24\n"+spin, "sys 1")
	var plans []*sched.Plan
	for _, a := range odd {
		if p, code := sched.New(a); code == api.OK {
			plans = append(plans, p)
		}
		sched.Ready(k, a)
		sched.Ready(nil, a)
	}
	for _, p := range append(plans, nil) {
		for _, a := range odd {
			for _, b := range odd {
				if p != nil {
					p.Set(a, b)
					p.Next([]int{a, b})
				}
				for _, root := range []int{-1, 0, 1, 2, 15, 16, math.MinInt, math.MaxInt} {
					sched.Drive(k, p, root, a, b, nil)
					sched.Drive(nil, p, root, a, b, []uint32{1})
				}
			}
		}
		if p != nil {
			p.Told()
		}
	}
	if len(plans) != 3 {
		t.Errorf("P24.1: there are %d kinds of plans", len(plans))
	}
}
