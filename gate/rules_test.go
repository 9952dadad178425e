package gate_test

import (
	"fmt"
	"math"
	"reflect"
	"slices"
	"testing"

	"amber/api"
	"amber/disk"
	"amber/gate"
)

// walk makes a script of calls on a kernel and shows each of them, with the states around it and the answer.
func walk(seed, calls int, show func(n int, k *gate.Kernel, env int, r api.Request, before api.State, reply api.Reply)) {
	d := dice(seed + 1000)
	x := disk.New()
	k := gate.Boot(x, 1+seed)
	for n := range calls {
		if d.below(400) == 0 {
			x.Crash(nil)
			k = gate.Boot(x, k.Serial())
		}
		before := k.State()
		env := d.env(before)
		r := d.request(before, env)
		reply := k.Call(env, r)
		show(n, k, env, r, before, reply)
		if d.below(8) == 0 {
			k.Store(env, uint32(d.below(160)), uint32(d.below(9)))
		}
	}
}

// envOf, capAt: what a state tells of a number, a slot.
func envOf(s api.State, num int) (api.Env, bool) {
	for _, x := range s.Envs {
		if x.Num == num {
			return x.Env, true
		}
	}
	return api.Env{}, false
}

func capAt(s api.State, env, slot int) (api.CapState, bool) {
	for _, c := range s.Caps {
		if c.Held.Env == env && c.Held.Slot == slot {
			return c, true
		}
	}
	return api.CapState{}, false
}

// broken tells which of the rules of P11.15 a state breaks.
func broken(s api.State) string {
	for _, rule := range []func(api.State) string{brokenThings, brokenQuotas, brokenMaps, brokenParents} {
		if b := rule(s); b != "" {
			return b
		}
	}
	return ""
}

func brokenThings(s api.State) string {
	there, holds := map[[3]int]int{}, map[[3]int]int{}
	for _, c := range s.Caps {
		holds[[3]int{c.Held.Cap.Kind, c.Held.Cap.Obj, c.Held.Cap.Serial}]++
	}
	for _, f := range s.Frames {
		there[[3]int{1, f.Num, f.Frame.Serial}] = f.Frame.Holds
	}
	for _, x := range s.Extents {
		there[[3]int{3, x.Num, x.Serial}] = x.Holds
	}
	for _, x := range s.Envs {
		there[[3]int{2, x.Num, x.Env.Serial}] = holds[[3]int{2, x.Num, x.Env.Serial}]
	}
	for thing, n := range holds {
		if there[thing] != n {
			return fmt.Sprint("capabilities on ", thing, ": ", n, ", holds: ", there[thing])
		}
	}
	for thing, n := range there {
		if holds[thing] != n || n < 1 && thing[0] != 2 {
			return fmt.Sprint("holds of ", thing, ": ", n, ", capabilities: ", holds[thing])
		}
	}
	return ""
}

func brokenQuotas(s api.State) string {
	for _, x := range s.Envs {
		left := x.Env.Quota
		for _, c := range s.Caps {
			if c.Held.Env == x.Num && c.Held.Cap.Kind == 1 {
				left.Frames--
			}
			if c.Held.Env == x.Num && c.Held.Cap.Kind == 3 {
				left.Extents--
			}
		}
		for _, y := range s.Envs {
			if y.Env.Parent == x.Num {
				left.Frames -= y.Env.Quota.Frames
				left.Envs -= 1 + y.Env.Quota.Envs
				left.Extents -= y.Env.Quota.Extents
			}
		}
		if left != x.Env.Left || left.Frames < 0 || left.Envs < 0 || left.Extents < 0 {
			return fmt.Sprintf("environment %d has %+v left, it should be %+v", x.Num, x.Env.Left, left)
		}
	}
	return ""
}

func brokenMaps(s api.State) string {
	for _, m := range s.Maps {
		c, held := capAt(s, m.Env, m.Slot)
		if !held || c.Held.Cap.Kind != 1 || c.Held.Cap.Rights&1 == 0 || m.Write && c.Held.Cap.Rights&2 == 0 {
			return fmt.Sprintf("the page %+v leads to %+v", m, c)
		}
	}
	return ""
}

func brokenParents(s api.State) string {
	for _, c := range s.Caps {
		up, steps := c, 0
		for up.From != (api.Place{Env: -1, Slot: -1}) {
			parent, held := capAt(s, up.From.Env, up.From.Slot)
			child, p := up.Held.Cap, parent.Held.Cap
			if !held || p.Kind != child.Kind || p.Obj != child.Obj || p.Serial != child.Serial || child.Rights&^p.Rights != 0 || p.Rights&4 == 0 {
				return fmt.Sprintf("%+v is derived from %+v", up, parent)
			}
			up = parent
			if steps++; steps > len(s.Caps) {
				return fmt.Sprintf("%+v is its own ancestor", c)
			}
		}
	}
	return ""
}

// TestAtAllTimes: the rules hold behind every call, refused or not.
func TestAtAllTimes(t *testing.T) {
	for seed := range 30 {
		walk(seed, 300, func(n int, k *gate.Kernel, env int, r api.Request, before api.State, reply api.Reply) {
			if b := broken(k.State()); b != "" {
				t.Fatalf("P11.15: seed %d, call %d: %s %v: %s", seed, n, gate.Name(r.Call), r.A, b)
			}
		})
	}
}

// TestRefusedIsUnchanged: a refused call tells its code alone and changes nothing.
func TestRefusedIsUnchanged(t *testing.T) {
	for seed := range 30 {
		walk(seed, 300, func(n int, k *gate.Kernel, env int, r api.Request, before api.State, reply api.Reply) {
			if reply.Code == api.OK {
				return
			}
			if !reflect.DeepEqual(reply, api.Reply{Code: reply.Code}) || !sameState(k.State(), before) {
				t.Fatalf("P11.7: seed %d, call %d: %s %v: refused with %+v", seed, n, gate.Name(r.Call), r.A, reply)
			}
		})
	}
}

// TestReadersChangeNothing: the calls that only read, and the other faces that do.
func TestReadersChangeNothing(t *testing.T) {
	readers := []int{0, 14, 15, 20, 21, 23, 24, 32, 33, 34, 35, 36, 47, 50}
	done := map[int]int{}
	for seed := range 30 {
		walk(seed, 300, func(n int, k *gate.Kernel, env int, r api.Request, before api.State, reply api.Reply) {
			if slices.Contains(readers, r.Call) {
				done[r.Call] += bit(reply.Code == api.OK || r.Call == 24)
				if !sameState(k.State(), before) {
					t.Fatalf("P11.17: seed %d, call %d: %s %v changed something", seed, n, gate.Name(r.Call), r.A)
				}
			}
			if n%10 == 0 {
				before = k.State()
				faces(dice(n), k)
				if !sameState(k.State(), before) {
					t.Fatalf("P11.17: seed %d, call %d: a face that reads changed something", seed, n)
				}
			}
		})
	}
	for _, call := range readers {
		if done[call] == 0 {
			t.Errorf("P11.17: %s was never made", gate.Name(call))
		}
	}
}

// TestSerialsAreGivenOnce: each serial belongs to one thing, or is one mark of one frame, behind a boot too.
func TestSerialsAreGivenOnce(t *testing.T) {
	for seed := range 30 {
		given := map[int][2]int{} // to a kind and the thing's serial; a mark is of kind 4
		give := func(n, serial int, to [2]int) {
			if was, is := given[serial]; is && was != to {
				t.Fatalf("P11.16: seed %d, call %d: serial %d is that of %v and of %v", seed, n, serial, was, to)
			}
			given[serial] = to
		}
		next := 0
		walk(seed, 400, func(n int, k *gate.Kernel, env int, r api.Request, before api.State, reply api.Reply) {
			s := k.State()
			for _, x := range s.Envs {
				give(n, x.Env.Serial, [2]int{2, x.Env.Serial})
			}
			for _, x := range s.Extents {
				give(n, x.Serial, [2]int{3, x.Serial})
			}
			for _, f := range s.Frames {
				give(n, f.Frame.Serial, [2]int{1, f.Frame.Serial})
				if f.Frame.Mark != 0 {
					give(n, f.Frame.Mark, [2]int{4, f.Frame.Serial})
				}
			}
			if k.Serial() < next || k.Serial() != s.Serial {
				t.Fatalf("P11.16: seed %d, call %d: the next serial is %d behind %d", seed, n, k.Serial(), next)
			}
			if _, is := given[s.Serial]; is {
				t.Fatalf("P11.16: seed %d, call %d: the next serial %d was given", seed, n, s.Serial)
			}
			next = k.Serial()
		})
	}
}

// reach: the environments that a caller may change: those that its list names, all that is below them, and all that is below itself.
func reach(s api.State, caller int) []int {
	in := []int{caller}
	for _, c := range s.Caps {
		if c.Held.Env == caller && c.Held.Cap.Kind == 2 {
			in = append(in, c.Held.Cap.Obj)
		}
	}
	for range s.Envs {
		for _, x := range s.Envs {
			if slices.Contains(in, x.Env.Parent) {
				in = append(in, x.Num)
			}
		}
		slices.Sort(in)
		in = slices.Compact(in)
	}
	return in
}

// TestNothingWithoutACapability: what a call may not reach is what it was; capabilities may go from there (with what was paid for them, and their pages), and get other parents.
func TestNothingWithoutACapability(t *testing.T) {
	for seed := range 40 {
		walk(seed, 300, func(n int, k *gate.Kernel, env int, r api.Request, before api.State, reply api.Reply) {
			s, in := k.State(), reach(before, env)
			where := fmt.Sprintf("P11.14: seed %d, call %d: %d: %s %v", seed, n, env, gate.Name(r.Call), r.A)
			for _, x := range before.Envs {
				if !slices.Contains(in, x.Num) {
					untouched(t, where, r.Call, x, before, s)
				}
			}
			for _, f := range before.Frames {
				if holdsOne(before, in, 1, f.Num) {
					continue
				}
				for _, g := range s.Frames {
					if g.Num == f.Num && (g.Frame.Serial != f.Frame.Serial || g.Frame.Dirty != f.Frame.Dirty || g.Frame.Mark != f.Frame.Mark || g.Page != f.Page) {
						t.Fatalf("%s: frame %d", where, f.Num)
					}
				}
			}
		})
	}
}

func holdsOne(s api.State, in []int, kind, obj int) bool {
	return slices.ContainsFunc(s.Caps, func(c api.CapState) bool {
		return slices.Contains(in, c.Held.Env) && c.Held.Cap.Kind == kind && c.Held.Cap.Obj == obj
	})
}

// untouched: an environment that a call may not reach.
func untouched(t *testing.T, where string, call int, x api.EnvState, before, now api.State) {
	t.Helper()
	y, lives := envOf(now, x.Num)
	left := y.Left
	y.Left = x.Env.Left
	if !lives || y != x.Env || left.Frames < x.Env.Left.Frames || left.Envs < x.Env.Left.Envs || left.Extents < x.Env.Left.Extents {
		t.Fatalf("%s: environment %d", where, x.Num)
	}
	for slot := range 48 {
		a, was := capAt(before, x.Num, slot)
		b, is := capAt(now, x.Num, slot)
		if is && a.Held != b.Held || was && !is && call != 8 && call != 13 {
			t.Fatalf("%s: slot %d of environment %d", where, slot, x.Num)
		}
	}
	for _, m := range now.Maps {
		if m.Env == x.Num && !slices.Contains(before.Maps, m) {
			t.Fatalf("%s: page %d of environment %d", where, m.V, x.Num)
		}
	}
	for _, m := range before.Maps {
		if _, is := capAt(now, m.Env, m.Slot); m.Env == x.Num && is && !slices.Contains(now.Maps, m) {
			t.Fatalf("%s: page %d of environment %d", where, m.V, x.Num)
		}
	}
}

// TestWallsOfExtents: no call changes a sector of an extent that its caller has no capability on.
func TestWallsOfExtents(t *testing.T) {
	for seed := range 20 {
		d := dice(seed)
		x := disk.New()
		k := gate.Boot(x, 1)
		for range 300 {
			before, bytes := k.State(), x.Medium()
			env := d.env(before)
			r := d.request(before, env)
			if d.below(2) == 0 {
				r.Call = d.of(16, 17, 46, 47, 48)
				r.A = [6]int{d.slot(before, env, 3), d.of(0, 1, 31, d.odd()), d.page(before, env, 16)}
				r.Data = bytesOf(128, byte(d.below(256)))
			}
			k.Call(env, r)
			x.Flush()
			now := x.Medium()
			for n := range 32 {
				mine := holdsOne(before, []int{env}, 3, n)
				if !mine && !slices.Equal(now[n*4096:n*4096+4096], bytes[n*4096:n*4096+4096]) {
					t.Fatalf("P11.14: seed %d: %d: %s %v changed extent %d", seed, env, gate.Name(r.Call), r.A, n)
				}
			}
		}
	}
}

// TestAnyRequest: numbers without any aim, on a kernel in whatever state: every call ends and none panics.
func TestAnyRequest(t *testing.T) {
	d := dice(5)
	k := scene(t)
	for range 20000 {
		r := api.Request{Call: d.of(d.below(52), d.odd()), A: [6]int{d.odd(), d.odd(), d.odd(), d.odd(), d.odd(), d.odd()}, Data: make([]byte, d.of(0, 36, 128, d.below(300)))}
		env := d.of(0, 0, 1, 2, d.odd())
		k.Call(env, r)
		k.Guest(env, r)
		k.Load(env, uint32(d.odd()))
		k.Store(env, uint32(d.odd()), 1)
		k.Fault(env, api.Errno(d.odd()))
		k.SerialOf(env, d.odd())
		k.SetRegs(env, api.Regs{PC: math.MaxUint32})
		k.Tree(env)
		k.Runs(env)
		gate.Name(d.odd())
	}
	if b := broken(k.State()); b != "" {
		t.Errorf("P11.15: %s", b)
	}
}
