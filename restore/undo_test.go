package restore

import (
	"reflect"
	"testing"

	"amber/api"
	"amber/disk"
	"amber/gate"
)

// TestUndone: behind a Plan that was OK no call is refused; so the builder alone is given forests that no Plan takes, each with something that the gate refuses at another step. Nothing is left of them but the serials that were taken.
func TestUndone(t *testing.T) {
	none := api.Place{Env: -1, Slot: -1}
	good := func() api.Forest {
		return api.Forest{
			Envs: []api.EnvRec{{Parent: -1, Frozen: true, Quota: api.Quota{Frames: 6, Envs: 2}}, {Quota: api.Quota{Frames: 2}, Frozen: true}},
			Caps: []api.CapRec{
				{Slot: 0, Kind: api.KindFrame, Rights: 15, In: true, Obj: 0, From: none},
				{Slot: 1, Kind: api.KindFrame, Rights: 15, In: true, Obj: 1, From: none},
				{Slot: 2, Kind: api.KindEnv, Rights: 15, In: true, Obj: 1, From: none},
				{Slot: 3, Kind: api.KindFrame, Rights: 7, From: none},
				{Env: 1, Slot: 4, Kind: api.KindFrame, Rights: 5, In: true, Obj: 1, From: api.Place{Slot: 1}},
			},
			Maps:  []api.MapRec{{V: 3, Slot: 1, Write: true}},
			Pages: []api.Page{{1: 7}, {2: 8}},
			Outs:  []api.OutRec{{Kind: api.KindFrame, Serial: 2}},
		}
	}
	for _, c := range []struct {
		what  string
		spoil func(f *api.Forest)
		want  api.Errno
	}{
		{"nothing", func(f *api.Forest) {}, api.OK},
		{"Spawn", func(f *api.Forest) { f.Envs[0].Quota.Frames = 90 }, api.ErrNoSpace},
		{"New", func(f *api.Forest) { f.Envs[1].Quota.Frames = 7 }, api.ErrNoSpace},
		{"New below nobody", func(f *api.Forest) { f.Envs[1].Parent = 9 }, api.ErrArg},
		{"Place of the second class", func(f *api.Forest) { f.Caps[1].Slot = 0 }, api.ErrTaken},
		{"Place of too many", func(f *api.Forest) { f.Envs[0].Quota.Frames = 3 }, api.ErrNoSpace},
		{"Self", func(f *api.Forest) { f.Caps[2].Obj = 9 }, api.ErrArg},
		{"Place of an out without a giver", func(f *api.Forest) { f.Outs[0].Serial = 99 }, api.ErrNoCap},
		{"Place of an out onto another", func(f *api.Forest) { f.Caps[3].Slot = 2 }, api.ErrTaken},
		{"Copy", func(f *api.Forest) { f.Caps[1].Rights = 9 }, api.ErrRights},
		{"MapIn", func(f *api.Forest) { f.Maps[0].V = 16 }, api.ErrPage},
		{"MapIn of no frame", func(f *api.Forest) { f.Maps[0].Slot = 2 }, api.ErrKind},
		{"Set", func(f *api.Forest) { f.Envs[1].State = 5 }, api.ErrArg},
	} {
		k := gate.Boot(disk.New(), 1)
		k.Call(0, api.Request{Call: api.CallAlloc})
		k.Call(0, api.Request{Call: api.NatClaim, A: [6]int{4}})
		f := good()
		c.spoil(&f)
		before := k.State()
		slot, code := newBuilder(k, 0, f).build()
		if code != c.want || (code == api.OK) != (slot == 2) || code != api.OK && slot != noSlot {
			t.Errorf("P18.4: %s: %d, %d, want %d", c.what, slot, code, c.want)
		}
		now := k.State()
		now.Serial = before.Serial
		if left := reflect.DeepEqual(now, before); left == (code == api.OK) {
			t.Errorf("P18.4: %s: the state is %+v, and was %+v", c.what, now, before)
		}
	}
}

// TestUndoLastFirst: the closures run once each, the last first.
func TestUndoLastFirst(t *testing.T) {
	var ran []int
	b := &builder{}
	for n := range 3 {
		b.undo = append(b.undo, func() api.Errno {
			ran = append(ran, n)
			return api.OK
		})
	}
	b.undoAll()
	b.undoAll()
	if !reflect.DeepEqual(ran, []int{2, 1, 0}) {
		t.Errorf("P18.4: they ran in the order %v", ran)
	}
}
