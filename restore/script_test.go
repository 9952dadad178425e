package restore_test

import (
	"fmt"
	"math"
	"slices"
	"testing"

	"amber/api"
	"amber/ckpt"
	"amber/store"
)

const scripts = 40

// yard: a machine with stores opened on it.
type yard struct {
	machine
	stores []*store.Store
	owners []int // in whose names they were opened
}

func (y *yard) env(d *dice) int {
	l, _ := y.k.Tree(0)
	return l[d.below(len(l))]
}

// open claims a home for somebody; often for environment 0.
func (y *yard) open(d *dice) {
	env, home := d.of(0, y.env(d)), d.of(31, 31, 30, 7)
	if s, _ := store.Open(y.k, env, home); s != nil {
		y.stores, y.owners = append(y.stores, s), append(y.owners, env)
	}
}

// any: a store, mostly one that serves its owner, and who asks.
func (y *yard) any(d *dice) (*store.Store, int) {
	if len(y.stores) == 0 || d.one(40) {
		return nil, d.of(0, 1)
	}
	n := d.of(len(y.stores)-1, d.below(len(y.stores)))
	if d.one(15) {
		return y.stores[n], d.of(0, 1, 2, -1, 16, math.MaxInt, math.MinInt)
	}
	return y.stores[n], y.owners[n]
}

func (y *yard) save(d *dice) {
	s, env := y.any(d)
	if s != nil {
		ckpt.Checkpoint(y.k, s, env, d.slot(y.k, env, api.KindEnv), d.one(4))
	}
}

// trouble: an adversary's edits, a disk that goes down, a crash, a store closed or committed to by hand.
func (y *yard) trouble(d *dice) {
	switch d.below(10) {
	case 0, 1:
		y.d.Edit(d.of(d.below(200), d.below(1024)), d.below(128), []byte{byte(d.below(256))})
	case 2:
		y.d.Arm(d.of(0, 3, 9))
		y.d.Flush()
	case 3, 4:
		if s, _ := y.any(d); s != nil && d.one(2) {
			s.Close()
		} else if s != nil {
			s.Commit([]byte("no image"), d.one(2))
		}
	case 5, 6:
		y.k.Call(0, request(d.of(api.CallDrop, api.CallKill), d.slot(y.k, 0, 0)))
	case 7, 8:
		if _, env := y.any(d); env > 0 {
			y.end(env)
		}
	default:
		y.crash()
	}
	if y.d.Down() && d.one(3) {
		y.crash()
	}
}

// end: environment 0 gives itself a capability on one, and kills it.
func (y *yard) end(env int) {
	tree, _ := y.k.Tree(0)
	if place := slices.Index(tree, env); place > 0 {
		y.k.Call(0, request(api.CallKill, y.k.Call(0, request(api.NatSelf, -1, place, 0, -1, 15)).V[0]))
	}
}

// crash: what the stores of before name is another kernel's.
func (y *yard) crash() {
	y.machine = y.machine.rebooted()
	if len(y.stores) > 4 {
		y.stores, y.owners = nil, nil
	}
}

// TestScriptsAgainstTheModel: whatever is done between, each Build and Restore answers and leaves what the model says.
func TestScriptsAgainstTheModel(t *testing.T) {
	built, woken := map[api.Errno]int{}, map[api.Errno]int{}
	for seed := range scripts {
		d := dice(seed)
		y := &yard{machine: newMachine()}
		for n := range 150 {
			what := fmt.Sprintf("seed %d, act %d", seed, n)
			if l, _ := y.k.Tree(0); len(l) == 1 && len(held(y.k, 0, 0)) < 20 && left(y.k, 0).Extents > 8 {
				plant(t, y.k, &d)
			}
			switch d.below(12) {
			case 0:
				y.trouble(&d)
			case 1:
				y.open(&d)
			case 2, 3, 4:
				y.save(&d)
			case 5, 6:
				s, env := y.any(&d)
				got, code := y.restore(t, what, y.k, s, env)
				woken[code]++
				if code == api.OK && d.one(2) {
					y.k.Call(env, request(api.CallKill, got))
				}
			case 7, 8:
				env, slot := d.anyTree(y.k)
				if env < 0 {
					continue
				}
				f := read(t, y.k, env, slot)
				if d.one(3) {
					f = spoilt(&d, f)
				}
				got, code := y.build(t, what, d.of(0, 0, env, y.env(&d), d.below(17)-1), f)
				built[code]++
				if code == api.OK && d.one(2) {
					y.k.Call(0, request(api.CallKill, got))
				}
			default:
				live(y.k, &d, d.below(12))
			}
		}
	}
	for _, code := range []api.Errno{api.OK, api.ErrEnv, api.ErrImage, api.ErrNoSpace, api.ErrStaleCap} {
		if built[code] < 15 {
			t.Errorf("P18.1: Build answered %d only %d times", int(code), built[code])
		}
	}
	for _, code := range []api.Errno{api.OK, api.ErrArg, api.ErrEnv, api.ErrNoCap, api.ErrDown, api.ErrNoImage, api.ErrImage, api.ErrNoSpace, api.ErrStaleCap} {
		if woken[code] < 4 {
			t.Errorf("P18.1: Restore answered %d only %d times", int(code), woken[code])
		}
	}
}
