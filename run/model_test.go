package run_test

import (
	"fmt"
	"math"
	"reflect"
	"slices"
	"testing"

	"amber/api"
	"amber/gate"
	"amber/isa"
	"amber/run"
)

// The model: the chapter once more, step by step, in one goroutine, on what a kernel's state tells.

// modelEnv: an environment by its number, and whether it runs.
func modelEnv(k *gate.Kernel, env int) (x api.Env, lives, runs bool) {
	envs := map[int]api.Env{}
	for _, e := range k.State().Envs {
		envs[e.Num] = e.Env
	}
	x, lives = envs[env]
	runs = lives && x.State == 1
	for e, up := x, lives; up; e, up = envs[e.Parent] {
		runs = runs && !e.Frozen
	}
	return x, lives, runs
}

// modelSerial: of the capability at a slot.
func modelSerial(k *gate.Kernel, env int, slot uint32) int {
	for _, c := range k.State().Caps {
		if c.Held.Env == env && c.Held.Slot == int(slot) {
			return c.Held.Cap.Serial
		}
	}
	return 0
}

func modelStep(k *gate.Kernel, env int, answers []uint32) (api.Event, int) {
	x, _, runs := modelEnv(k, env)
	if !runs {
		return api.Event{}, 0
	}
	r := x.Regs
	w, code := k.Load(env, r.PC)
	if code == 0 {
		_, code = isa.Decode(w)
	}
	a, addr := int(w>>20&7), r.R[w>>16&7]+uint32(int32(int16(w)))
	switch op := w >> 24; {
	case code != 0:
	case op == 19:
		r.R[a], code = k.Load(env, addr)
		r.PC++
	case op == 20:
		code = k.Store(env, addr, r.R[a])
		r.PC++
	case op == 26:
		r.PC++
		k.SetRegs(env, r)
		return modelCall(k, env, int(w&0xFFFF), r, answers)
	default:
		var effect api.Effect
		r, effect = isa.Exec(r, w)
		code = effect.Code
	}
	if code != 0 {
		k.Fault(env, code)
		return api.Event{Kind: 2, Steps: 1, Code: code}, 0
	}
	k.SetRegs(env, r)
	return api.Event{Kind: 3, Steps: 1}, 0
}

func modelCall(k *gate.Kernel, env, call int, r api.Regs, answers []uint32) (api.Event, int) {
	e := api.Event{Kind: 1, Steps: 1, Call: call, A: [5]uint32{r.R[1], r.R[2], r.R[3], r.R[4], r.R[5]}}
	switch call {
	case 6, 3:
		e.Serial = modelSerial(k, env, r.R[2])
	case 10, 11, 13, 19, 21, 22, 23, 5, 7, 8, 15, 16, 17:
		e.Serial = modelSerial(k, env, r.R[1])
	}
	taken := 0
	switch {
	case call == 24 && len(answers) == 0:
		e.Code = api.ErrState
	case call == 24:
		e.V[0], taken = answers[0], 1
	default:
		got := k.Guest(env, api.Request{Call: call, A: [6]int{int(r.R[1]), int(r.R[2]), int(r.R[3]), int(r.R[4]), int(r.R[5])}})
		e.Code, e.V = got.Code, [3]uint32{uint32(got.V[0]), uint32(got.V[1]), uint32(got.V[2])}
	}
	if x, lives, _ := modelEnv(k, env); lives {
		copy(x.Regs.R[:], []uint32{uint32(e.Code), e.V[0], e.V[1], e.V[2]})
		k.SetRegs(env, x.Regs)
	}
	return e, taken
}

func modelRun(k *gate.Kernel, root int, picks []api.Pick, answers []uint32) ([]api.Event, api.Errno) {
	if _, lives, _ := modelEnv(k, root); !lives {
		return nil, api.ErrEnv
	}
	sum := 0
	for _, p := range picks {
		if p.Steps > 4096 {
			return nil, api.ErrArg
		}
		if p.Steps > 0 {
			sum += p.Steps
		}
	}
	if len(picks) > 4096 || sum > 4096 {
		return nil, api.ErrArg
	}
	var out []api.Event
	for _, p := range picks {
		out = append(out, modelPick(k, root, p, &answers)...)
	}
	return out, api.OK
}

func modelPick(k *gate.Kernel, root int, p api.Pick, answers *[]uint32) []api.Event {
	tree, _ := k.Tree(root)
	if p.K < 0 || p.K >= len(tree) || p.Steps < 1 {
		return []api.Event{{K: p.K}}
	}
	env := tree[p.K]
	if _, _, runs := modelEnv(k, env); !runs {
		return []api.Event{{K: p.K}}
	}
	var out []api.Event
	for n := 1; ; n++ {
		e, taken := modelStep(k, env, *answers)
		*answers = (*answers)[taken:]
		e.K, e.Steps = p.K, n
		if e.Kind != 3 {
			out = append(out, e)
		}
		if e.Kind == 1 && e.Call == 0 {
			return out
		}
		if _, _, runs := modelEnv(k, env); !runs {
			return out
		}
		if n == p.Steps {
			return append(out, api.Event{Kind: 3, K: p.K, Steps: n})
		}
	}
}

// quiet: nobody does anything beside the village.
func quiet(*village) {}

// sameDisk: as far as acts and writes that wait go.
func sameDisk(a, b *village) bool {
	return a.d.Acts() == b.d.Acts() && a.d.Down() == b.d.Down() && slices.Equal(a.d.Pending(), b.d.Pending())
}

// twins: two kernels with the same village, stirred alike; what is done with the one and with the other must come to the same.
func twins(t *testing.T, promise string, seeds, rounds int, act func(where string, d *dice, x, y *village)) {
	t.Helper()
	for seed := range seeds {
		x, y := found(t, seed, quiet), found(t, seed, quiet)
		d := dice(seed + 1)
		for n := range rounds {
			e := d
			x.stir(t, &d)
			y.stir(t, &e)
			where := fmt.Sprintf("%s: seed %d, run %d", promise, seed, n)
			act(where, &d, x, y)
			if !reflect.DeepEqual(x.k.State(), y.k.State()) || !sameDisk(x, y) {
				t.Fatalf("%s: the state is %+v, want %+v", where, x.k.State(), y.k.State())
			}
		}
	}
}

// TestRunsAgainstTheModel: the one runs, the other does what the chapter says.
func TestRunsAgainstTheModel(t *testing.T) {
	twins(t, "P12.1", 60, 12, func(where string, d *dice, x, y *village) {
		if d.below(8) == 0 {
			left := d.below(4)
			x.d.Arm(left)
			y.d.Arm(left)
		}
		root := d.of(x.root, x.root, x.root, 0, x.at(d.below(x.size())), 15, -1)
		p, answers := d.picks(d.below(14)), d.answers()
		got, code := run.Run(x.k, root, p, answers)
		want, wanted := modelRun(y.k, root, p, answers)
		if code != wanted || !slices.Equal(got, want) {
			t.Fatalf("%s: Run(%d, %v, %v) = %+v, %d, want %+v, %d", where, root, p, answers, got, code, want, wanted)
		}
	})
}

// TestStepsAgainstTheModel: single steps of whatever environment, at whatever registers.
func TestStepsAgainstTheModel(t *testing.T) {
	for seed := range 30 {
		x, y := found(t, seed, quiet), found(t, seed, quiet)
		d := dice(seed + 2)
		for n := range 250 {
			env := d.of(x.at(d.below(x.size())), x.at(d.below(x.size())), x.root, 0, 16, -1, math.MinInt)
			if r := x.k.State().Envs[d.below(len(x.k.State().Envs))]; d.below(10) == 0 {
				r.Env.Regs.R[d.below(8)] = uint32(d.of(0, 3, 1<<32-1))
				r.Env.Regs.PC = uint32(d.of(d.below(64), d.below(64), 511, 512))
				put(t, x.k, r.Num, api.Ready, 0, 0, r.Env.Regs)
				put(t, y.k, r.Num, api.Ready, 0, 0, r.Env.Regs)
			}
			answers := d.answers()
			got, taken := run.Step(x.k, env, answers)
			want, wanted := modelStep(y.k, env, answers)
			if got != want || taken != wanted || !reflect.DeepEqual(x.k.State(), y.k.State()) {
				t.Fatalf("P12.1: seed %d, step %d: Step(%d, %v) = %+v, %d, want %+v, %d", seed, n, env, answers, got, taken, want, wanted)
			}
		}
	}
}
