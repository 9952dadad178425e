package store_test

import (
	"fmt"
	"hash/fnv"
	"math"
	"testing"

	"amber/api"
	"amber/gate"
	"amber/store"
)

const scripts = 60

// side: a machine with stores opened on it, the package's or the model's.
type side struct {
	machine
	open    func(k *gate.Kernel, env, home int) (keeper, api.Errno)
	keepers []keeper
}

func packageOpen(k *gate.Kernel, env, home int) (keeper, api.Errno) {
	s, code := store.Open(k, env, home)
	if s == nil {
		return nil, code
	}
	return s, code
}

// answer: what a call told: its code, and the rest as text.
type answer struct {
	call string
	code api.Errno
	rest string
}

// act: one thing to be done on both sides.
type act struct {
	name string
	do   func(s *side) answer
}

// call: a system call, in whose name ever.
func call(env int, r api.Request) act {
	return act{fmt.Sprintf("%d: %s %v", env, gate.Name(r.Call), r.A), func(s *side) answer {
		return answer{"", s.k.Call(env, r).Code, ""}
	}}
}

// brief: long lists of bytes told by a number.
func brief(l [][]byte) string {
	h := fnv.New64a()
	s := ""
	for _, b := range l {
		h.Write(b)
		s += fmt.Sprint(len(b), " ")
	}
	return fmt.Sprintf("%s%x", s, h.Sum64())
}

// roll: an act by dice; the sides are alike, so one of them tells for both what there is.
func (d *dice) roll(s *side) act {
	if n := len(s.keepers); n > 0 && d.below(2) == 0 {
		return d.onStore(d.below(n))
	}
	switch d.below(12) {
	case 0, 1, 2:
		env, home := d.env(s), d.of(0, 0, 5, 31, d.below(32), d.of(-1, 32, math.MinInt, math.MaxInt))
		return act{fmt.Sprintf("Open %d %d", env, home), func(s *side) answer {
			x, code := s.open(s.k, env, home)
			if x != nil {
				s.keepers = append(s.keepers, x)
			}
			return answer{"Open", code, fmt.Sprint(x != nil)}
		}}
	case 3:
		return d.onDisk()
	case 4:
		return call(0, request(api.CallKill, d.child(s)))
	default:
		return call(d.env(s), d.request())
	}
}

func (d *dice) env(s *side) int {
	if d.below(15) == 0 {
		return d.of(-1, 1, 2, 15, 16, math.MaxInt)
	}
	l := s.k.State().Envs
	return l[d.below(len(l))].Num
}

// child: a slot of environment 0's with a capability on one, where there is one.
func (d *dice) child(s *side) int {
	for _, c := range s.k.State().Caps {
		if c.Held.Env == 0 && c.Held.Cap.Kind == api.KindEnv && d.below(2) == 0 {
			return c.Held.Slot
		}
	}
	return d.below(48)
}

func (d *dice) onStore(i int) act {
	image, full := picture(d.size(), d.below(200)), d.below(2) == 0
	env := d.of(0, 0, 1, 2, -1)
	switch d.below(12) {
	case 0:
		return act{fmt.Sprint("Close ", i), func(s *side) answer { return answer{"Close", s.keepers[i].Close(), ""} }}
	case 1, 2:
		return act{fmt.Sprint("Serves ", i, env), func(s *side) answer {
			return answer{"Serves", 0, fmt.Sprint(s.keepers[i].Serves(s.k, env), s.keepers[i].Serves(nil, env))}
		}}
	case 3, 4, 5:
		return act{fmt.Sprint("Chain ", i), func(s *side) answer {
			l, code := s.keepers[i].Chain()
			return answer{"Chain", code, brief(l)}
		}}
	default:
		return act{fmt.Sprint("Commit ", i, len(image), full), func(s *side) answer { return answer{"Commit", s.keepers[i].Commit(image, full), ""} }}
	}
}

func (d *dice) size() int {
	if d.below(10) == 0 {
		return d.of(0, 32769, 40000)
	}
	return d.of(d.length(), d.length(), 1+d.below(600))
}

// request: calls of others, at slots that are in use mostly.
func (d *dice) request() api.Request {
	slot, rights := d.below(6), d.of(15, 15, 7, 3, 1, d.below(16))
	if d.below(3) == 0 {
		slot = d.below(48)
	}
	switch d.below(10) {
	case 0:
		return request(api.CallDrop, slot)
	case 1, 2:
		return request(api.CallDerive, slot, rights)
	case 3, 4:
		return request(api.CallSpawn, d.of(0, 3), d.of(0, 1), d.of(0, 2, 5, 9))
	case 5:
		return request(api.NatClaim, d.of(-1, d.below(32)))
	case 6:
		return request(api.NatPlace, slot, d.below(6), 0, d.of(-1, d.below(6)), rights)
	case 7:
		return request(api.CallAlloc)
	case 8:
		return request(d.of(api.CallRevoke, api.NatFlush), slot)
	}
	return api.Request{Call: api.NatWrite, A: [6]int{slot, d.below(32)}, Data: all(128, byte(d.below(256)))}
}

// onDisk: an adversary's edits, an armed disk, a crash.
func (d *dice) onDisk() act {
	switch d.below(6) {
	case 0, 1:
		n := d.of(0, 1, 2, 5, 20, 40)
		return act{fmt.Sprint("Arm ", n), func(s *side) answer { return answer{"", s.d.Arm(n), ""} }}
	case 2, 3:
		sector := d.of(0, 5, 31)*32 + d.below(2)
		b := d.superblock(2*d.of(0, 1, 2, 7, 1<<31-1) + sector%2)
		return act{fmt.Sprint("Edit ", sector), func(s *side) answer { return answer{"", s.d.Edit(sector, 0, b), ""} }}
	case 4:
		sector, at, b := d.below(1024), d.below(128), []byte{byte(d.below(256))}
		return act{fmt.Sprint("Edit ", sector), func(s *side) answer { return answer{"", s.d.Edit(sector, at, b), ""} }}
	}
	keep := d.flips(60)
	return act{"Crash", func(s *side) answer {
		text := fmt.Sprint(s.d.Crash(keep))
		s.k = gate.Boot(s.d, s.k.Serial())
		for _, x := range s.keepers {
			text += fmt.Sprint(" ", x.Serves(s.k, 0), x.Serves(s.k, 1))
		}
		s.keepers = nil
		return answer{"", 0, text}
	}}
}

// told: what all stores of a side say of themselves.
func (s *side) told() string {
	text := ""
	for _, x := range s.keepers {
		text += fmt.Sprint(x.Gen(), x.Extents(), x.Serves(s.k, 0), x.Serves(s.k, 1), x.Serves(s.k, 2), " ")
	}
	return text
}

// outcomes: the calls, and the codes that must have come of them.
var outcomes = map[string][]api.Errno{
	"Open":   {api.OK, api.ErrNoSpace, api.ErrDown, api.ErrEnv, api.ErrExtent, api.ErrClaimed},
	"Commit": {api.OK, api.ErrArg, api.ErrNoSpace, api.ErrSize, api.ErrDown, api.ErrNoCap, api.ErrEnv, api.ErrState},
	"Chain":  {api.OK, api.ErrArg, api.ErrDown, api.ErrNoCap, api.ErrEnv},
	"Close":  {api.OK, api.ErrArg},
}

// TestScriptsAgainstTheModel: two machines, on which the same is done, look alike behind each act, in all that can be seen.
func TestScriptsAgainstTheModel(t *testing.T) {
	seen := map[answer]int{}
	for seed := range scripts {
		r := dice(seed)
		var sides [2]*side
		for i, open := range []func(*gate.Kernel, int, int) (keeper, api.Errno){packageOpen, modelOpen} {
			sides[i] = &side{machine: newMachine(), open: open}
		}
		for n := range 150 {
			a := r.roll(sides[0])
			got, want := a.do(sides[0]), a.do(sides[1])
			if got != want {
				t.Fatalf("P16.1: seed %d, act %d: %s: %v, want %v", seed, n, a.name, got, want)
			}
			if d := sides[0].shape().differs(sides[1].shape()); d != "" {
				t.Fatalf("P16.1: seed %d, act %d: %s (%v): %s", seed, n, a.name, got, d)
			}
			if x, y := sides[0].told(), sides[1].told(); x != y {
				t.Fatalf("P16.1: seed %d, act %d: %s: the stores tell %s, want %s", seed, n, a.name, x, y)
			}
			got.rest = ""
			seen[got]++
		}
	}
	for name, codes := range outcomes {
		for _, code := range codes {
			if n := seen[answer{name, code, ""}]; n < 8 {
				t.Errorf("P16.1: %s answered %d only %d times", name, int(code), n)
			}
		}
	}
}
