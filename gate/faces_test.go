package gate_test

import (
	"math"
	"reflect"
	"slices"
	"testing"

	"amber/api"
	"amber/disk"
	"amber/gate"
)

func TestSerial(t *testing.T) {
	k := boot(t)
	next := 2
	for _, x := range []struct {
		line string
		used int
	}{
		{"0 alloc = 0", 1}, {"0 spawn 9 9 9 = 1", 1}, {"0 claim -1 = 2 0", 1}, {"0 claim 7 = 3 7", 1}, {"0 new 1 0 1 0 0 = 1", 1},
		{"0 clean -1 0 0 = 7 1", 1}, {"0 clean -1 0 0 = 7 0", 0}, {"0 derive 0 15 = 4", 0}, {"0 self 1 1 0 -1 15 = 0", 0}, {"0 place 0 1 0 -1 15 = 1", 0},
		{"0 drop 0 =", 0}, {"0 drop 9 ! NoCap", 0}, {"0 claim 7 ! Claimed", 0}, {"0 spawn 60 0 0 ! NoSpace", 0}, {"0 new 1 1 0 0 0 ! NoSpace", 0},
		{"0 clean -1 0 0 ! NoCap", 0}, {"0 kill 1 =", 0}, {"0 alloc = 0", 1}, {"0 spawn 1 0 0 = 1", 1}, {"1 alloc = 0", 1}, {"1 alloc ! NoSpace", 0},
	} {
		script(t, "P11.2", k, x.line)
		next += x.used
		if k.Serial() != next || k.State().Serial != next {
			t.Errorf("P11.2: behind %s: Serial() = %d, State tells %d, want %d", x.line, k.Serial(), k.State().Serial, next)
		}
	}
}

// TestSerialBehindACrash: a kernel that is booted with the old one's serial gives none again.
func TestSerialBehindACrash(t *testing.T) {
	d := disk.New()
	k := gate.Boot(d, 1)
	var given []int
	for range 5 {
		given = append(given, look(t, k, 0).Serial)
		for slot := range 3 {
			ask(t, k, "0 alloc")
			given = append(given, k.SerialOf(0, slot))
			given = append(given, ask(t, k, "0 clean -1 0 "+string(rune('0'+slot))).V[0])
		}
		d.Crash(nil)
		k = gate.Boot(d, k.Serial())
	}
	slices.Sort(given)
	if len(slices.Compact(slices.Clone(given))) != len(given) || given[0] != 1 {
		t.Errorf("P11.16: serials %v", given)
	}
}

func TestLoadAndStore(t *testing.T) {
	k := boot(t)
	script(t, "P11.3", k, `
		0 alloc = 0
		0 alloc = 1
		0 map 15 1 1 =
		0 map 3 0 0 =
		0 map 4 0 1 =
		0 clean -1 0 0 = 4 1
		0 clean -1 0 1 = 5 1`)
	for i := range uint32(32) {
		store(t, "P11.3", k, 0, 15*32+i, i+100, api.OK)
		store(t, "P11.3", k, 0, 4*32+i, math.MaxUint32-i, api.OK)
	}
	for i := range uint32(32) {
		load(t, "P11.3", k, 0, 15*32+i, i+100, api.OK)
		load(t, "P11.3", k, 0, 3*32+i, math.MaxUint32-i, api.OK)
		store(t, "P11.3", k, 0, 3*32+i, 1, api.ErrReadOnly)
	}
	for _, f := range k.State().Frames {
		if !f.Frame.Dirty || f.Frame.Mark != 4+f.Num {
			t.Errorf("P11.3: frame %d is %+v behind a store", f.Num, f.Frame)
		}
	}
	script(t, "P11.3", k, "0 clean -1 0 1 = 6 1")
	load(t, "P11.3", k, 0, 511, 131, api.OK)
	store(t, "P11.3", k, 0, 3*32, 1, api.ErrReadOnly)
	store(t, "P11.3", k, 0, 512, 1, api.ErrPage)
	if f := k.State().Frames[1].Frame; f.Dirty {
		t.Error("P11.3: a load, or a store that is refused, makes a frame dirty")
	}
	store(t, "P11.3", k, 0, 511, 131, api.OK)
	if f := k.State().Frames[1].Frame; !f.Dirty {
		t.Error("P11.3: a store of the same word makes the frame dirty too")
	}
	for _, addr := range []uint32{512, 513, 1 << 16, 1 << 31, math.MaxUint32} {
		load(t, "P11.3", k, 0, addr, 0, api.ErrPage)
		store(t, "P11.3", k, 0, addr, 1, api.ErrPage)
	}
	for _, addr := range []uint32{0, 95, 160, 479} {
		load(t, "P11.3", k, 0, addr, 0, api.ErrUnmapped)
		store(t, "P11.3", k, 0, addr, 1, api.ErrUnmapped)
	}
	for _, env := range append(slices.Clone(far), -1, 1, 15, 16) {
		load(t, "P11.3", k, env, 512, 0, api.ErrEnv)
		store(t, "P11.3", k, env, 512, 1, api.ErrEnv)
	}
}

func TestTold(t *testing.T) {
	k := scene(t)
	none := append(slices.Clone(far), -1, 3, 15, 16)
	for _, env := range none {
		if x, code := k.Env(env); code != api.ErrEnv || x != (api.Env{}) {
			t.Errorf("P11.4: Env(%d) = %+v, %d", env, x, code)
		}
		if code := k.SetRegs(env, api.Regs{PC: 5}); code != api.ErrEnv {
			t.Errorf("P11.4: SetRegs(%d) = %d", env, code)
		}
		if code := k.Fault(env, -1); code != api.ErrEnv {
			t.Errorf("P11.4: Fault(%d) = %d", env, code)
		}
		if l, code := k.Tree(env); code != api.ErrEnv || l != nil {
			t.Errorf("P11.4: Tree(%d) = %v, %d", env, l, code)
		}
		if k.Runs(env) || k.SerialOf(env, 0) != 0 {
			t.Errorf("P11.4: Runs(%d), SerialOf(%d, 0)", env, env)
		}
	}
	for slot, want := range []int{2, 3, 4, 2, 2, 3, 3, 4, 4, 2, 3, 2, 0} {
		if got := k.SerialOf(0, slot); got != want {
			t.Errorf("P11.4: SerialOf(0, %d) = %d, want %d", slot, got, want)
		}
	}
	for _, slot := range append(slices.Clone(far), -1, 47) {
		if got := k.SerialOf(0, slot); got != 0 {
			t.Errorf("P11.4: SerialOf(0, %d) = %d, want 0", slot, got)
		}
	}
	for env, want := range [][]int{{0, 1, 2}, {1, 2}, {2}} {
		if l, code := k.Tree(env); code != api.OK || !slices.Equal(l, want) {
			t.Errorf("P11.4: Tree(%d) = %v, %d, want %v", env, l, code, want)
		}
	}
}

// TestTreeIsPreorder: children by their making, not by number.
func TestTreeIsPreorder(t *testing.T) {
	k := boot(t)
	script(t, "P11.4", k, `
		0 spawn 0 3 0 = 0
		0 spawn 0 3 0 = 1
		0 kill 0 =
		0 new 1 0 0 1 0 = 1
		0 new 1 1 0 0 0 = 2
		0 new 1 0 0 0 0 = 3
		0 spawn 0 0 0 = 0
		0 count -1 = 6`)
	if l, _ := k.Tree(0); !slices.Equal(l, []int{0, 2, 1, 3, 4, 5}) {
		t.Errorf("P11.4: Tree(0) = %v", l)
	}
	script(t, "P11.11", k, `
		0 env -1 1 = 0 48
		0 env -1 2 = 1 48
		0 env -1 3 = 2 48
		0 env -1 4 = 1 48
		0 env -1 5 = 0 48
		0 env 1 3 = 0 48`)
}

func TestSetRegsFaultAndRuns(t *testing.T) {
	k := scene(t)
	regs := api.Regs{R: [8]uint32{1, 2, 3, 4, 5, 6, 7, math.MaxUint32}, PC: 99}
	before := look(t, k, 1)
	if code := k.SetRegs(1, regs); code != api.OK {
		t.Errorf("P11.4: SetRegs = %d", code)
	}
	before.Regs = regs
	if look(t, k, 1) != before {
		t.Errorf("P11.4: SetRegs: %+v", look(t, k, 1))
	}
	for _, code := range []api.Errno{math.MinInt, -1, 1 << 32, math.MaxInt} {
		if got := k.Fault(1, code); got != api.ErrArg || look(t, k, 1) != before {
			t.Errorf("P11.4: Fault(1, %d) = %d", code, got)
		}
	}
	for _, code := range []api.Errno{0, 73, 1<<32 - 1} {
		before.State, before.Code = api.Faulted, int(code)
		if got := k.Fault(1, code); got != api.OK || look(t, k, 1) != before {
			t.Errorf("P11.4: Fault(1, %d) = %d, %+v", code, got, look(t, k, 1))
		}
	}
	for state := range 5 {
		script(t, "P11.11", k, "0 set 1 1 "+string(rune('0'+state))+" 0 0 data=0x36 =")
		if k.Runs(2) != (state == api.Ready) {
			t.Errorf("P11.4: Runs(2) = %v in state %d", k.Runs(2), state)
		}
	}
	script(t, "P11.11", k, "0 set 1 1 1 0 0 data=0x36 =")
	for place := range 3 {
		where := "0 freeze -1 " + string(rune('0'+place))
		script(t, "P11.11", k, where+" 1 = 0")
		if k.Runs(2) {
			t.Errorf("P11.4: it runs below place %d, which is frozen", place)
		}
		script(t, "P11.11", k, where+" 1 = 1\n"+where+" 0 = 1\n"+where+" 0 = 0")
		if !k.Runs(2) {
			t.Errorf("P11.4: it doesn't run, with place %d thawed", place)
		}
	}
}

func TestState(t *testing.T) {
	k := boot(t)
	script(t, "P11.5", k, `
		0 spawn 6 1 3 = 0
		0 alloc = 1
		0 claim 9 = 2 9
		0 claim 4 = 3 4
		0 place 1 0 0 40 7 = 40
		0 place 2 0 0 30 3 = 30
		1 alloc = 0
		0 new 0 0 1 0 0 = 1
		0 copy 0 0 40 1 2 1 = 2
		0 natmapin 0 1 9 2 0 =
		0 natmapin 0 0 7 40 1 =
		0 natmapin 0 0 2 40 0 =
		0 map 15 1 1 =
		0 notify 0 6 =
		0 clean -1 0 1 = 8 1`)
	store(t, "P11.3", k, 1, 7*32+3, 77, api.OK)
	want := api.State{
		Serial: 9,
		Envs: []api.EnvState{
			{Num: 0, Env: api.Env{Serial: 1, Parent: -1, Quota: api.Quota{Frames: 64, Envs: 15, Extents: 32}, Left: api.Quota{Frames: 57, Envs: 13, Extents: 27}}},
			{Num: 1, Env: api.Env{Serial: 2, Parent: 0, Bits: 6, Quota: api.Quota{Frames: 6, Envs: 1, Extents: 3}, Left: api.Quota{Frames: 3, Envs: 0, Extents: 2}}},
			{Num: 2, Env: api.Env{Serial: 7, Parent: 1, Quota: api.Quota{Frames: 1}}},
		},
		Caps: []api.CapState{
			{Held: api.Held{Env: 0, Slot: 0, Cap: api.Cap{Kind: 2, Obj: 1, Serial: 2, Rights: 15}}, From: api.Place{Env: -1, Slot: -1}},
			{Held: api.Held{Env: 0, Slot: 1, Cap: api.Cap{Kind: 1, Obj: 0, Serial: 3, Rights: 15}}, From: api.Place{Env: -1, Slot: -1}},
			{Held: api.Held{Env: 0, Slot: 2, Cap: api.Cap{Kind: 3, Obj: 9, Serial: 4, Rights: 15}}, From: api.Place{Env: -1, Slot: -1}},
			{Held: api.Held{Env: 0, Slot: 3, Cap: api.Cap{Kind: 3, Obj: 4, Serial: 5, Rights: 15}}, From: api.Place{Env: -1, Slot: -1}},
			{Held: api.Held{Env: 1, Slot: 0, Cap: api.Cap{Kind: 1, Obj: 1, Serial: 6, Rights: 15}}, From: api.Place{Env: -1, Slot: -1}},
			{Held: api.Held{Env: 1, Slot: 30, Cap: api.Cap{Kind: 3, Obj: 9, Serial: 4, Rights: 3}}, From: api.Place{Env: 0, Slot: 2}},
			{Held: api.Held{Env: 1, Slot: 40, Cap: api.Cap{Kind: 1, Obj: 0, Serial: 3, Rights: 7}}, From: api.Place{Env: 0, Slot: 1}},
			{Held: api.Held{Env: 2, Slot: 2, Cap: api.Cap{Kind: 1, Obj: 0, Serial: 3, Rights: 1}}, From: api.Place{Env: 1, Slot: 40}},
		},
		Maps: []api.MapRec{{Env: 0, V: 15, Slot: 1, Write: true}, {Env: 1, V: 2, Slot: 40}, {Env: 1, V: 7, Slot: 40, Write: true}, {Env: 2, V: 9, Slot: 2}},
		Frames: []api.FrameState{
			{Num: 0, Frame: api.Frame{Serial: 3, Holds: 3, Dirty: true, Mark: 8}, Page: api.Page{3: 77}},
			{Num: 1, Frame: api.Frame{Serial: 6, Holds: 1, Dirty: true}},
		},
		Extents: []api.ExtState{{Num: 4, Serial: 5, Holds: 1}, {Num: 9, Serial: 4, Holds: 2}},
	}
	if got := k.State(); !reflect.DeepEqual(got, want) {
		t.Errorf("P11.5: State() = %+v\nwant %+v", got, want)
	}
	if again := k.State(); !reflect.DeepEqual(again, want) {
		t.Error("P11.5: State() changed something")
	}
}

// spoil writes over all that a list has, spare room included.
func spoil[T any](l []T) {
	l = l[:cap(l)]
	var zero T
	for i := range l {
		l[i] = zero
	}
}

func TestAnswersAreNewMemory(t *testing.T) {
	k := scene(t)
	script(t, "P11.11", k, "0 natwrite 2 0 data=6x128 =\n0 fill 0 data=6x128 =")
	want := k.State()
	for range 2 {
		s := k.State()
		spoil(s.Envs)
		spoil(s.Caps)
		spoil(s.Maps)
		spoil(s.Frames)
		spoil(s.Extents)
		l, _ := k.Tree(0)
		spoil(l)
		for _, line := range []string{"0 env -1 1", "0 caps -1 0", "0 maps -1 0", "0 page -1 0 0", "0 natread 2 0"} {
			got := ask(t, k, line)
			spoil(got.Rows)
			spoil(got.Data)
			if again := ask(t, k, line); len(again.Rows)+len(again.Data) == 0 || slices.Equal(again.Rows, got.Rows) && slices.Equal(again.Data, got.Data) {
				t.Errorf("P11.7: %s: the answer is not new memory", line)
			}
		}
		if !reflect.DeepEqual(k.State(), want) {
			t.Fatal("P11.5: what State answers is not new memory")
		}
	}
}

// TestDataIsNotKept: what is handed in may be written over behind the call.
func TestDataIsNotKept(t *testing.T) {
	k := scene(t)
	data := bytesOf(128, 7)
	k.Call(0, api.Request{Call: api.NatFill, A: [6]int{0}, Data: data})
	k.Call(0, api.Request{Call: api.NatWrite, A: [6]int{2, 5}, Data: data})
	if !slices.Equal(data, bytesOf(128, 7)) {
		t.Error("P11.7: Data was changed")
	}
	spoil(data)
	if got := ask(t, k, "0 page -1 0 0"); !slices.Equal(got.Data, bytesOf(128, 7)) {
		t.Error("P11.11: fill keeps its Data")
	}
	if got := ask(t, k, "0 natread 2 5"); !slices.Equal(got.Data, bytesOf(128, 7)) {
		t.Error("P11.11: natwrite keeps its Data")
	}
}

// TestKernelsAreApart: what is done to one is not seen in another, even on one disk.
func TestKernelsAreApart(t *testing.T) {
	d := disk.New()
	a, b := gate.Boot(d, 1), gate.Boot(d, 1)
	before := b.State()
	script(t, "P11.1", a, `
		0 alloc = 0
		0 spawn 1 1 1 = 1
		0 claim 0 = 2 0
		0 map 0 0 1 =
		0 natwrite 2 0 data=4x128 =`)
	if !reflect.DeepEqual(b.State(), before) || b.Serial() != 2 {
		t.Error("P11.1: two kernels are not apart")
	}
	script(t, "P11.1", b, "0 claim 0 = 0 0")
	if got := ask(t, b, "0 natread 0 0"); got.Data[0] != 4 {
		t.Error("P11.1: the kernels work on one disk")
	}
}
