package ckpt_test

import (
	"fmt"
	"math"
	"testing"

	"amber/api"
	"amber/chain"
	"amber/ckpt"
	"amber/gate"
	"amber/image"
	"amber/store"
	"amber/walk"
)

const scripts = 60

// side: a machine with stores opened on it, and who checkpoints there: the package or the model.
type side struct {
	machine
	checkpoint func(k *gate.Kernel, s *store.Store, env, slot int, full bool) (api.Saved, api.Errno)
	stores     []*store.Store
	owners     []int // in whose names they were opened
}

// answer: what a call told.
type answer struct {
	call  string
	code  api.Errno
	saved api.Saved
}

// act: one thing to be done on both sides.
type act struct {
	name string
	do   func(s *side) answer
}

// plain: an act of which only the code is told.
func plain(name string, do func(s *side) api.Errno) act {
	return act{name, func(s *side) answer { return answer{code: do(s)} }}
}

// roll: an act by dice; the sides are alike, so one of them tells for both what there is.
func (d *dice) roll(s *side) act {
	switch {
	case s.d.Down() && d.below(8) == 0:
		return d.crash()
	case len(s.stores) == 0 && d.below(3) == 0:
		return d.onStore(s)
	}
	switch d.below(12) {
	case 0, 1, 2, 3:
		return d.save(s)
	case 4:
		return d.onStore(s)
	case 5:
		return d.onDisk(s)
	}
	env := d.env(s)
	if d.below(3) == 0 {
		addr, v := uint32(32*d.page(s.k, env)+d.below(32)), uint32(d.below(1<<31))
		return plain(fmt.Sprintf("Store %d %d %d", env, addr, v), func(s *side) api.Errno { return s.k.Store(env, addr, v) })
	}
	r := d.request(s.k, env)
	switch d.below(10) {
	case 0, 1:
		r = request(api.NatSelf, -1, d.below(8), d.below(3), d.of(-1, -1, d.below(6)), d.of(1, 2, 3, 13, 14, 15))
	case 2:
		env, r = 0, request(api.NatSelf, -1, d.below(8), 0, -1, d.below(16))
	case 3:
		env, r = 0, request(api.CallKill, d.slot(s.k, 0, api.KindEnv))
	}
	return plain(fmt.Sprintf("%d: %s %v", env, gate.Name(r.Call), r.A), func(s *side) api.Errno { return s.k.Call(env, r).Code })
}

func (d *dice) env(s *side) int {
	l, _ := s.k.Tree(0)
	return l[d.below(len(l))]
}

// save: a Checkpoint, mostly one that may well be done, now and then whatever numbers, no kernel, no store.
func (d *dice) save(s *side) act {
	full, nth, noKernel := d.below(5) == 0, -1, d.below(60) == 0
	env, slot := d.of(0, 1, 2, -1, 16, math.MaxInt), d.of(0, 1, 2, 47, 48, -1, math.MinInt)
	if len(s.stores) > 0 && d.below(40) > 0 {
		nth = d.of(len(s.stores)-1, len(s.stores)-1, d.below(len(s.stores)))
		if d.below(12) > 0 {
			env = s.owners[nth]
		}
		if l := trees(s.k, env); len(l) > 0 && d.below(4) > 0 {
			slot = d.of(l...)
		} else if d.below(4) > 0 {
			slot = d.slot(s.k, env, d.of(0, api.KindEnv, api.KindEnv))
		}
	}
	return act{fmt.Sprintf("Checkpoint %d %d %d %v", nth, env, slot, full), func(s *side) answer {
		k := s.k
		if noKernel {
			k = nil
		}
		var x *store.Store
		if nth >= 0 {
			x = s.stores[nth]
		}
		saved, code := s.checkpoint(k, x, env, slot, full)
		return answer{"Checkpoint", code, saved}
	}}
}

// onStore: one is opened, closed, or committed to by hand.
func (d *dice) onStore(s *side) act {
	if len(s.stores) == 0 || d.below(5) == 0 {
		env, home := d.of(0, 0, d.env(s)), d.of(31, 31, 30, 7)
		return plain(fmt.Sprintf("Open %d %d", env, home), func(s *side) api.Errno {
			x, code := store.Open(s.k, env, home)
			if x != nil {
				s.stores, s.owners = append(s.stores, x), append(s.owners, env)
			}
			return code
		})
	}
	nth := d.below(len(s.stores))
	if d.below(8) == 0 {
		return plain(fmt.Sprint("Close ", nth), func(s *side) api.Errno { return s.stores[nth].Close() })
	}
	env, slot, off, marked, full := s.owners[nth], d.slot(s.k, s.owners[nth], api.KindEnv), d.of(0, 0, 0, 1, -1), d.below(2) == 0, d.below(3) > 0
	return plain(fmt.Sprint("Commit ", nth, off, marked, full), func(s *side) api.Errno {
		return s.stores[nth].Commit(byHand(s.k, env, slot, s.stores[nth].Gen()+1+off, marked), full)
	})
}

// byHand: the full image of a tree with any generation, or, where there is no such tree, bytes that are none.
func byHand(k *gate.Kernel, env, slot, gen int, marked bool) []byte {
	f, keys, code := walk.Read(k, env, slot)
	for i := range keys {
		if !marked {
			keys[i].Mark = 0
		}
	}
	im, code2 := chain.Full(f, keys, gen)
	data, err := image.Encode(im)
	if code != api.OK || code2 != api.OK || err != nil {
		return []byte("no image")
	}
	return data
}

// onDisk: an adversary's edits, an armed disk, a crash.
func (d *dice) onDisk(s *side) act {
	switch d.below(8) {
	case 0, 1, 2:
		n := d.of(0, 1, 3, 5, 20, 40, 60)
		return plain(fmt.Sprint("Arm ", n), func(s *side) api.Errno { return s.d.Arm(n) })
	case 3, 4:
		sector, at, b := d.of(d.below(200), d.below(1024)), d.below(128), []byte{byte(d.below(256))}
		return plain(fmt.Sprint("Edit ", sector), func(s *side) api.Errno { return s.d.Edit(sector, at, b) })
	case 5:
		return plain("Edit 993", func(s *side) api.Errno { return s.d.Edit(993, 0, lastGeneration(api.MaxGen)) })
	}
	return d.crash()
}

// crash: the stores of before serve the new kernel no more.
func (d *dice) crash() act {
	keep := d.flips(60)
	return plain("Crash", func(s *side) api.Errno {
		s.machine = s.machine.rebooted(keep)
		var code api.Errno
		for _, x := range s.stores {
			_, code = s.checkpoint(s.k, x, 0, 0, false)
		}
		s.stores, s.owners = nil, nil
		return code
	})
}

func (s *side) told() string {
	text := ""
	for _, x := range s.stores {
		text += fmt.Sprint(x.Gen(), x.Extents(), " ")
	}
	return text
}

// replant: where nothing but environment 0 lives, trees are made anew, as far as there is room.
func (s *side) replant(t *testing.T, d dice) {
	if l, _ := s.k.Tree(0); len(l) == 1 && s.k.Call(0, request(api.NatLeft)).V[3] > 20 && s.k.Call(0, request(api.NatLeft)).V[2] > 8 {
		plant(t, s.k, &d)
	}
}

// TestScriptsAgainstTheModel: two machines, on which the same is done, look alike behind each act, in all that can be seen.
func TestScriptsAgainstTheModel(t *testing.T) {
	codes, forms := map[api.Errno]int{}, map[bool]int{}
	for seed := range scripts {
		r := dice(seed)
		sides := []*side{{machine: newMachine(), checkpoint: ckpt.Checkpoint}, {machine: newMachine(), checkpoint: modelCheckpoint}}
		for n := range 200 {
			sides[0].replant(t, r)
			sides[1].replant(t, r)
			a := r.roll(sides[0])
			got, want := a.do(sides[0]), a.do(sides[1])
			if got != want {
				t.Fatalf("P17.2: seed %d, act %d: %s: %+v, want %+v", seed, n, a.name, got, want)
			}
			if d := sides[0].shape().differs(sides[1].shape()); d != "" {
				t.Fatalf("P17.2: seed %d, act %d: %s (%+v): %s", seed, n, a.name, got, d)
			}
			if x, y := sides[0].told(), sides[1].told(); x != y {
				t.Fatalf("P17.2: seed %d, act %d: %s: the stores tell %s, want %s", seed, n, a.name, x, y)
			}
			if got.call == "Checkpoint" {
				codes[got.code]++
			}
			if got.saved.Gen > 0 {
				forms[got.saved.Full]++
			}
		}
	}
	for _, code := range []api.Errno{api.OK, api.ErrArg, api.ErrEnv, api.ErrNoCap, api.ErrKind, api.ErrRights, api.ErrSelf, api.ErrNoSpace, api.ErrDown} {
		if codes[code] < 5 {
			t.Errorf("P17.2: Checkpoint answered %d only %d times", int(code), codes[code])
		}
	}
	if forms[true] < 100 || forms[false] < 100 {
		t.Errorf("P17.2: full ones or not: %v", forms)
	}
}
