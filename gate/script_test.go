package gate_test

import (
	"fmt"
	"math"
	"reflect"
	"slices"
	"strings"
	"testing"

	"amber/api"
	"amber/disk"
	"amber/gate"
)

// kernel: the calls of the chapter, which the package and the model both have.
type kernel interface {
	Call(env int, r api.Request) api.Reply
	Guest(env int, r api.Request) api.Reply
	Serial() int
	Load(env int, addr uint32) (uint32, api.Errno)
	Store(env int, addr uint32, v uint32) api.Errno
	Env(env int) (api.Env, api.Errno)
	SetRegs(env int, r api.Regs) api.Errno
	Fault(env int, code api.Errno) api.Errno
	Runs(env int) bool
	Tree(env int) ([]int, api.Errno)
	SerialOf(env, slot int) int
	State() api.State
}

// dice: numbers by a fixed rule, so that each run of the test is the same.
type dice uint64

func (d *dice) below(n int) int {
	*d = *d*6364136223846793005 + 1442695040888963407
	return int(uint64(*d)>>33) % n
}

func (d *dice) of(l ...int) int { return l[d.below(len(l))] }

// odd: numbers at and past the edges of what arguments may be.
func (d *dice) odd() int {
	return d.of(-2, -1, -1, 0, 2, 5, 9, 15, 16, 17, 31, 32, 47, 48, 64, 1<<20, 1<<20+1, 1<<32-1, 1<<32, 1<<62, math.MinInt, math.MaxInt)
}

// slot: one of the caller's that holds a capability of that kind (0: of any), where there is one.
func (d *dice) slot(s api.State, env, kind int) int {
	var l []int
	for _, c := range s.Caps {
		if c.Held.Env == env && (kind == 0 || c.Held.Cap.Kind == kind) {
			l = append(l, c.Held.Slot)
		}
	}
	if len(l) == 0 {
		return d.below(48)
	}
	return d.of(l...)
}

// page: where a call asks for one that is present mostly such a one.
func (d *dice) page(s api.State, env, call int) int {
	var l []int
	for _, m := range s.Maps {
		if m.Env == env {
			l = append(l, m.V)
		}
	}
	if len(l) > 0 && (call == 4 || call == 16 || call == 17 || call == 18) {
		return d.of(l...)
	}
	return d.of(0, 1, 2, 3, 15)
}

// kinds: of the slot that a call asks for of the caller's own list.
var kinds = map[int]int{3: 1, 16: 3, 17: 3, 41: 1, 47: 3, 48: 3}

// argument: mostly a number that may well be.
func (d *dice) argument(s api.State, env, call int, name string) int {
	if d.below(30) == 0 {
		return d.odd()
	}
	switch name {
	case "slot":
		if d.below(3) > 0 && (call == 19 || call == 36 || call == 37 || call == 43 || call == 45) {
			return d.slot(s, d.below(4), d.of(0, 1, 1))
		}
		return d.slot(s, env, kinds[call])
	case "es":
		if call >= 32 && d.below(3) == 0 {
			return -1
		}
		return d.slot(s, env, 2)
	case "k", "k2":
		return d.of(0, 0, 0, 1, 1, 2, 3)
	case "v":
		return d.page(s, env, call)
	case "sector":
		return d.of(0, 1, 31)
	case "rights":
		return d.of(15, 15, 15, 7, 7, 5, 3, 3, 2, 1, 1, 0, d.below(16))
	case "at":
		return d.of(-1, -1, -1, d.below(10), d.below(48))
	case "f":
		return d.of(0, 1, 3, 6, 20)
	case "e", "x":
		return d.of(0, 1, 2, 3, 5)
	case "n":
		return d.of(-1, d.below(5), d.below(32))
	case "code", "bits", "value", "pc":
		return d.of(0, 1, 6, d.below(512), 1<<32-1)
	}
	l := limits[name]
	return l[0] + d.below(l[1]-l[0]+1)
}

// busy: the calls, those that build up more often than those that tear down.
var busy = []int{2, 2, 2, 3, 3, 5, 5, 5, 6, 6, 6, 9, 9, 9, 10, 11, 12, 19, 22, 37, 39, 39, 40, 41, 42, 42, 42, 43, 43, 43, 44, 44, 45, 45, 46, 46, 16, 17, 34, 34, 33, 35, 36, 48, 47}

func (d *dice) request(s api.State, env int) api.Request {
	call := d.of(busy...)
	if d.below(3) == 0 {
		call = d.below(52)
	}
	r := api.Request{Call: call, A: [6]int{d.odd(), d.odd(), d.odd(), d.odd(), d.odd(), d.odd()}}
	if call < len(specs) {
		for i, name := range strings.Fields(specs[call]) {
			r.A[i] = d.argument(s, env, call, name)
		}
	}
	if n := sizes[call]; n > 0 && d.below(12) > 0 {
		r.Data = make([]byte, n)
		for i := range r.Data {
			r.Data[i] = byte(d.below(256))
		}
	} else if d.below(3) == 0 {
		r.Data = make([]byte, d.of(1, 35, 37, 127, 129))
	}
	return r
}

func (d *dice) env(s api.State) int {
	if d.below(40) == 0 {
		return d.odd()
	}
	if d.below(3) == 0 {
		return 0
	}
	return s.Envs[d.below(len(s.Envs))].Num
}

// act: one call, told and to be done on any kernel.
type act struct {
	name string
	do   func(k kernel) string
}

func (d *dice) act(s api.State) act {
	env := d.env(s)
	addr, v := uint32(d.of(d.below(600), d.below(160), 511, 512, math.MaxUint32)), uint32(d.below(1000))
	code := api.Errno(d.of(0, 60, d.odd()))
	r := d.request(s, env)
	switch d.below(24) {
	case 0, 1:
		return act{fmt.Sprint("Store ", env, addr), func(k kernel) string { return fmt.Sprint(k.Store(env, addr, v)) }}
	case 2:
		return act{fmt.Sprint("SetRegs ", env, v), func(k kernel) string { return fmt.Sprint(k.SetRegs(env, api.Regs{PC: v, R: [8]uint32{3: v}})) }}
	case 3:
		return act{fmt.Sprint("Fault ", env, int(code)), func(k kernel) string { return fmt.Sprint(int(k.Fault(env, code))) }}
	case 4, 5:
		return act{fmt.Sprint("Guest ", env, r), func(k kernel) string { return fmt.Sprint(k.Guest(env, r)) }}
	}
	return act{fmt.Sprintf("Call %d %s %v, %d bytes", env, gate.Name(r.Call), r.A, len(r.Data)), func(k kernel) string { return fmt.Sprint(k.Call(env, r)) }}
}

// sameState: an empty list is the same as none.
func sameState(a, b api.State) bool {
	return a.Serial == b.Serial && slices.Equal(a.Envs, b.Envs) && slices.Equal(a.Caps, b.Caps) && slices.Equal(a.Maps, b.Maps) && slices.Equal(a.Frames, b.Frames) && slices.Equal(a.Extents, b.Extents)
}

// faces: what the other calls tell, at some numbers.
func faces(d dice, k kernel) string {
	var b strings.Builder
	for env := -1; env < 17; env++ {
		fmt.Fprint(&b, k.Runs(env), k.SerialOf(env, d.below(50)-1), k.SerialOf(env, d.below(5)))
		fmt.Fprint(&b, fmt.Sprint(k.Env(env)), fmt.Sprint(k.Tree(env)), fmt.Sprint(k.Load(env, uint32(d.below(160)))), fmt.Sprint(k.Load(env, uint32(d.below(520)))))
	}
	fmt.Fprint(&b, k.Serial())
	return b.String()
}

// outage: the machine of both goes down, or comes up again and boots with the next serial.
func outage(d *dice, x, y *disk.Disk, k *gate.Kernel, m *model) (*gate.Kernel, *model) {
	if d.below(3) > 0 {
		left := d.below(6)
		x.Arm(left)
		y.Arm(left)
		return k, m
	}
	keep := []bool{d.below(2) == 0, d.below(2) == 0, d.below(2) == 0}
	x.Crash(keep)
	y.Crash(keep)
	return gate.Boot(x, k.Serial()), newModel(y, m.Serial())
}

func TestScriptsAgainstTheModel(t *testing.T) {
	for seed := range 60 {
		d := dice(seed)
		x, y := disk.New(), disk.New()
		k, m := gate.Boot(x, 1+seed), newModel(y, 1+seed)
		for n := range 400 {
			if d.below(300) == 0 {
				k, m = outage(&d, x, y, k, m)
			}
			c := d.act(m.State())
			if got, want := c.do(k), c.do(m); got != want {
				t.Fatalf("P11.7: seed %d, call %d: %s: %s, want %s", seed, n, c.name, got, want)
			}
			if got, want := k.State(), m.State(); !sameState(got, want) {
				t.Fatalf("P11.10: seed %d, call %d: %s: the state is %+v, want %+v", seed, n, c.name, got, want)
			}
			if n%20 == 0 {
				if got, want := faces(d, k), faces(d, m); got != want {
					t.Fatalf("P11.4: seed %d, call %d: %s: %s, want %s", seed, n, c.name, got, want)
				}
			}
			if x.Acts() != y.Acts() || x.Down() != y.Down() || !slices.Equal(x.Pending(), y.Pending()) {
				t.Fatalf("P11.10: seed %d, call %d: %s: the disk is not as it should be", seed, n, c.name)
			}
		}
		if !reflect.DeepEqual(x.Medium(), y.Medium()) {
			t.Fatalf("P11.10: seed %d: the medium is not what was written", seed)
		}
	}
}
