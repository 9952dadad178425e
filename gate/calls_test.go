package gate_test

import (
	"fmt"
	"math"
	"slices"
	"testing"

	"amber/api"
	"amber/disk"
	"amber/gate"
)

func TestCallsThatDoNothing(t *testing.T) {
	k := scene(t)
	script(t, "P11.10", k, `
		0 yield =
		1 yield =
		0 emit 0 =
		2 emit 4294967295 =
		0 ask ! State
		0 set 1 0 1 0 0 data=0x36 =
		1 ask ! State`)
}

func TestExitAndWait(t *testing.T) {
	k := scene(t)
	for _, state := range []int{0, 2, 3, 4} {
		script(t, "P11.10", k, fmt.Sprintf(`
			0 set 1 0 %d 7 5 data=0x36 =
			1 exit 1 ! State
			1 wait ! State`, state))
	}
	script(t, "P11.10", k, `
		0 set 1 0 1 7 5 data=3x36 =
		1 wait = 5`)
	if x := look(t, k, 1); x.State != api.Ready || x.Bits != 0 || x.Code != 7 {
		t.Errorf("P11.10: wait with bits: %+v", x)
	}
	script(t, "P11.10", k, "1 wait = 0")
	if x := look(t, k, 1); x.State != api.Waiting || x.Code != 7 || x.Regs.PC != 0x03030303 {
		t.Errorf("P11.10: wait without bits: %+v", x)
	}
	script(t, "P11.10", k, `
		0 notify 6 0 =
		0 status 1 = 2 7
		0 notify 6 4294967295 =
		0 status 1 = 1 7
		0 getreg 1 0 = 0
		0 getreg 1 1 = 4294967295
		0 getreg 1 2 = 50529027
		0 notify 1 4 =
		0 notify 1 1 =
		0 status 1 = 1 7
		1 exit 4294967295 =
		0 status 1 = 3 4294967295
		1 exit 0 ! State`)
	if x := look(t, k, 1); x.Bits != 5 || x.Regs.R[1] != math.MaxUint32 {
		t.Errorf("P11.10: notify of one that is ready: %+v", x)
	}
}

// TestSetWaitingWithBits: set wakes nobody; the next notice does.
func TestSetWaitingWithBits(t *testing.T) {
	k := scene(t)
	script(t, "P11.11", k, `
		0 set 1 0 2 7 6 data=1x36 =
		0 status 1 = 2 7
		0 notify 1 0 =
		0 status 1 = 1 7
		0 getreg 1 1 = 6`)
	if x := look(t, k, 1); x.Bits != 0 {
		t.Errorf("P11.10: notify: %+v", x)
	}
}

func TestStart(t *testing.T) {
	k := scene(t)
	script(t, "P11.10", k, "0 set 1 0 0 9 6 data=2x36 =\n0 start 6 4294967295 =")
	x := look(t, k, 1)
	if x.State != api.Ready || x.Code != 9 || x.Bits != 6 || x.Regs.PC != math.MaxUint32 || x.Regs.R != [8]uint32(slices.Repeat([]uint32{0x02020202}, 8)) {
		t.Errorf("P11.10: start: %+v", x)
	}
	for state := 1; state <= 4; state++ {
		script(t, "P11.10", k, fmt.Sprintf("0 set 1 0 %d 0 0 data=0x36 =\n0 start 1 0 ! State", state))
	}
}

func TestRegisters(t *testing.T) {
	k := scene(t)
	for r := range 9 {
		script(t, "P11.10", k, fmt.Sprintf(`
			0 setreg 6 %d %d =
			0 getreg 5 %d = %d`, r, 4294967290-r, r, 4294967290-r))
	}
	if x := look(t, k, 1); x.Regs.PC != 4294967282 || x.Regs.R[0] != 4294967290 || x.Regs.R[7] != 4294967283 || x.State != api.Idle {
		t.Errorf("P11.10: setreg: %+v", x)
	}
	script(t, "P11.10", k, "0 setreg 1 3 0 =\n0 getreg 1 3 = 0\n0 getreg 1 2 = 4294967288\n0 getreg 1 4 = 4294967286")
}

func TestMapAndProtect(t *testing.T) {
	k := boot(t)
	script(t, "P11.10", k, `
		0 alloc = 0
		0 derive 0 3 = 1
		0 derive 0 1 = 2
		0 map 0 0 1 =
		0 map 15 1 1 =
		0 map 7 2 0 =
		0 map 8 0 0 =
		0 map 0 2 0 ! Mapped
		0 protect 8 1 =
		0 protect 8 1 =
		0 protect 7 0 =
		0 protect 7 1 ! Rights
		0 protect 15 0 =`)
	rows(t, "P11.10", k, "0 maps -1 0", [8]int{0, 0, 1, 1}, [8]int{7, 2, 0, 1}, [8]int{8, 0, 1, 1}, [8]int{15, 1, 0, 1})
	script(t, "P11.10", k, `
		0 unmap 0 =
		0 unmap 0 ! Unmapped
		0 unmap 15 =`)
	rows(t, "P11.10", k, "0 maps -1 0", [8]int{7, 2, 0, 1}, [8]int{8, 0, 1, 1})
	script(t, "P11.10", k, "0 clean -1 0 0 = 3 1")
	rows(t, "P11.11", k, "0 maps -1 0", [8]int{7, 2, 0, 0}, [8]int{8, 0, 1, 0})
}

// TestMapInAnother: the slot is one of that environment's list, and so are the rights.
func TestMapInAnother(t *testing.T) {
	k := scene(t)
	script(t, "P11.10", k, `
		0 mapin 6 0 5 1 =
		0 mapin 6 1 7 0 =
		0 mapin 1 2 5 0 =
		0 drop 0 =`)
	rows(t, "P11.10", k, "0 maps 1 0", [8]int{0, 5, 1, 1}, [8]int{1, 7, 0, 1}, [8]int{2, 5, 0, 1}, [8]int{3, 5, 1, 1})
	rows(t, "P11.10", k, "0 maps -1 0", [8]int{1, 4, 0, 1})
}

// TestDropAndRevoke: what goes takes its pages along, gives back what was paid and lets the thing go with the last.
func TestDropAndRevoke(t *testing.T) {
	k := boot(t)
	script(t, "P11.10", k, `
		0 spawn 5 0 5 = 0
		0 alloc = 1
		0 claim 6 = 2 6
		0 grant 1 0 15 =
		0 grant 2 0 15 =
		1 derive 0 7 = 2
		1 derive 1 7 = 3
		1 map 0 0 1 =
		1 map 1 2 1 =
		1 map 2 2 0 =
		0 map 5 1 1 =
		1 left = 3 0 3
		0 natleft = 58 14 26 45
		1 drop 0 =
		1 left = 4 0 3`)
	rows(t, "P11.10", k, "0 maps 0 0", [8]int{1, 2, 1, 1}, [8]int{2, 2, 0, 1})
	rows(t, "P11.10", k, "0 caps -1 1", [8]int{1, 3, 15, 4, -1, 0, 2, 0}, [8]int{2, 1, 7, 3, -1, 0, 1, 1}, [8]int{3, 3, 7, 4, -1, 1, 1, 0})
	script(t, "P11.10", k, `
		0 revoke 1 =
		0 revoke 1 =
		1 left = 5 0 3
		0 left = 58 14 26
		0 drop 2 =
		0 left = 58 14 27
		1 revoke 1 =
		1 left = 5 0 4
		1 drop 1 =
		0 claim 6 = 2 6`)
	rows(t, "P11.10", k, "0 maps 0 0")
	rows(t, "P11.10", k, "0 maps -1 0", [8]int{5, 1, 1, 1})
	rows(t, "P11.10", k, "0 caps 0 0")
}

// TestFreeWithTheLast: a frame's number and an extent's are free again just when the last capability goes.
func TestFreeWithTheLast(t *testing.T) {
	k := boot(t)
	script(t, "P11.15", k, "0 alloc = 0\n0 derive 0 15 = 1\n0 derive 1 15 = 2\n0 fill 2 data=7x128 =")
	for left := 3; left > 0; left-- {
		if f := k.State().Frames; len(f) != 1 || f[0].Frame.Holds != left {
			t.Errorf("P11.15: frames %+v, want %d holds", f, left)
		}
		script(t, "P11.15", k, fmt.Sprintf("0 drop %d =", 3-left))
	}
	script(t, "P11.15", k, "0 alloc = 0\n0 page -1 0 0 = 1 0 3")
	if got := ask(t, k, "0 page -1 0 0"); !slices.Equal(got.Data, make([]byte, 128)) {
		t.Error("P11.10: a new frame tells what an earlier one held")
	}
}

func TestDerive(t *testing.T) {
	k := boot(t)
	script(t, "P11.10", k, "0 alloc = 0\n0 spawn 0 0 0 = 1\n0 claim -1 = 2 0")
	slot := 3
	for _, from := range []int{0, 1, 2} {
		for _, rights := range []int{0, 1, 6, 15} {
			script(t, "P11.10", k, fmt.Sprintf("0 derive %d %d = %d\n0 info %d = %d %d", from, rights, slot, slot, []int{1, 2, 3}[from], rights))
			slot++
		}
	}
	script(t, "P11.12", k, "0 natleft = 59 14 27 33")
}

// TestRoomOfQuotas: each kind is paid from its own part, by the environment in whose list it lies.
func TestRoomOfQuotas(t *testing.T) {
	k := boot(t)
	script(t, "P11.12", k, `
		0 spawn 1 0 1 = 0
		0 alloc = 1
		0 claim -1 = 2 0
		0 grant 1 0 7 =
		0 grant 1 0 7 ! NoSpace
		1 derive 0 1 ! NoSpace
		1 alloc ! NoSpace
		0 place 1 0 0 9 7 ! NoSpace
		0 grant 2 0 7 =
		0 grant 2 0 7 ! NoSpace
		1 claim -1 ! NoSpace
		1 claim 5 ! NoSpace
		1 derive 1 0 ! NoSpace
		0 copy 0 0 0 0 -1 0 ! NoSpace
		0 copy 0 0 1 0 9 0 ! NoSpace
		0 grant 0 0 7 =
		1 derive 2 0 = 3
		0 self 0 0 0 -1 15 = 4
		1 spawn 0 0 0 ! NoSpace
		1 left = 0 0 0
		1 drop 0 =
		1 alloc = 0
		1 drop 1 =
		1 claim 5 = 1 5`)
}

// TestSpawnCarves: the child's whole quota and one environment are the parent's to pay.
func TestSpawnCarves(t *testing.T) {
	k := boot(t)
	script(t, "P11.12", k, `
		0 spawn 64 14 32 = 0
		0 left = 0 0 0
		0 alloc ! NoSpace
		0 claim 0 ! NoSpace
		0 spawn 0 0 0 ! NoSpace
		1 spawn 65 0 0 ! NoSpace
		1 spawn 0 14 0 ! NoSpace
		1 spawn 0 0 33 ! NoSpace
		1 spawn 64 13 32 = 0
		0 kill 0 =
		0 natleft = 64 15 32 48`)
}

// TestAllOfTheMachine: with all that environment 0 has, as many frames, environments and extents as the machine has.
func TestAllOfTheMachine(t *testing.T) {
	k := boot(t)
	script(t, "P11.12", k, "0 spawn 40 7 16 = 0")
	for i := range 24 {
		script(t, "P11.12", k, fmt.Sprintf("0 alloc = %d", i+1))
	}
	for i := range 16 {
		script(t, "P11.12", k, fmt.Sprintf("0 claim -1 = %d %d\n1 claim -1 = %d %d", i+25, 2*i, i, 2*i+1))
	}
	for i := range 32 {
		script(t, "P11.12", k, fmt.Sprintf("1 alloc = %d", i+16))
	}
	script(t, "P11.12", k, "1 alloc ! NoSpace\n0 place 1 0 0 -1 1 ! NoSpace\n1 drop 0 =\n1 alloc = 0\n1 alloc ! NoSpace")
	for i := range 7 {
		script(t, "P11.12", k, fmt.Sprintf("0 new 0 0 0 0 0 = %d\n0 new -1 0 0 0 0 = %d", i+1, 2*i+3))
	}
	script(t, "P11.12", k, "0 new -1 0 0 0 0 ! NoSpace\n1 new -1 0 0 0 0 ! NoSpace\n0 count -1 = 16\n0 natleft = 0 0 0 7\n1 natleft = 7 0 1 0")
	if s := k.State(); len(s.Envs) != 16 || len(s.Frames) != 57 || len(s.Extents) != 31 {
		t.Errorf("P11.12: %d environments, %d frames, %d extents", len(s.Envs), len(s.Frames), len(s.Extents))
	}
}

// TestRoomOfSlots: a full list has no room at -1; nothing is paid then.
func TestRoomOfSlots(t *testing.T) {
	k := boot(t)
	script(t, "P11.12", k, "0 spawn 2 1 2 = 0\n0 alloc = 1\n0 claim -1 = 2 0\n0 grant 1 0 7 =\n0 grant 2 0 7 =")
	for i := range 46 {
		script(t, "P11.12", k, fmt.Sprintf("0 self 0 0 0 -1 15 = %d", i+2))
	}
	script(t, "P11.12", k, `
		1 natleft = 1 1 1
		1 alloc ! NoSpace
		1 spawn 0 0 0 ! NoSpace
		1 claim -1 ! NoSpace
		1 claim 9 ! NoSpace
		1 derive 0 1 ! NoSpace
		1 derive 47 1 ! NoSpace
		0 grant 1 0 1 ! NoSpace
		0 place 1 0 0 -1 1 ! NoSpace
		0 place 1 0 0 47 1 ! Taken
		0 copy 0 0 0 0 -1 1 ! NoSpace
		0 copy 0 0 0 0 0 1 ! Taken
		0 self 0 0 0 -1 1 ! NoSpace
		0 self 0 0 0 3 1 ! Taken
		1 natleft = 1 1 1
		0 new 0 0 0 0 0 = 1
		1 natleft = 1 0 1
		1 drop 30 =
		1 drop 20 =
		1 natleft = 1 0 1 2
		1 alloc = 20
		1 claim 9 = 30 9
		1 natleft = 0 0 0 0`)
}

func TestSectors(t *testing.T) {
	d := disk.New()
	k := gate.Boot(d, 1)
	script(t, "P11.10", k, `
		0 claim 31 = 0 31
		0 derive 0 1 = 1
		0 derive 0 2 = 2
		0 alloc = 3
		0 alloc = 4
		0 map 0 3 1 =
		0 map 1 4 1 =
		0 map 2 4 0 =
		0 clean -1 0 3 = 5 1
		0 clean -1 0 4 = 6 1`)
	for i := range uint32(32) {
		store(t, "P11.3", k, 0, i, 0x01020304+i, api.OK)
	}
	script(t, "P11.10", k, `
		0 clean -1 0 3 = 7 1
		0 write 2 31 0 =
		0 page -1 0 3 = 0 7 3
		0 read 1 31 1 =
		0 page -1 0 4 = 1 6 4`)
	if b, _ := d.Read(1023); b[0] != 4 || b[1] != 3 || b[2] != 2 || b[3] != 1 || b[4] != 5 || b[124] != 0x23 {
		t.Errorf("P11.10: write: % x", b)
	}
	if x, y := ask(t, k, "0 page -1 0 3"), ask(t, k, "0 page -1 0 4"); !slices.Equal(x.Data, y.Data) {
		t.Errorf("P11.10: read: % x", y.Data)
	}
	script(t, "P11.10", k, `
		0 natwrite 2 30 data=8x128 =
		0 read 1 30 2 ! ReadOnly
		0 write 2 29 2 =
		0 read 1 30 0 =`)
	if b := ask(t, k, "0 natread 1 29").Data; b[0] != 4 || b[124] != 0x23 {
		t.Errorf("P11.10: write from a page that may be read only: % x", b)
	}
	load(t, "P11.10", k, 0, 31, 0x08080808, api.OK)
	if got := d.Acts(); got != 3 {
		t.Errorf("P11.10: %d acts, want 3", got)
	}
	script(t, "P11.11", k, "0 flush =")
	if b, _ := d.Raw(1022); d.Acts() != 4 || len(d.Pending()) != 0 || b[127] != 8 {
		t.Error("P11.11: flush doesn't flush the disk")
	}
}

// TestGoingDown: the call at which the disk goes down is refused and changes nothing of the state.
func TestGoingDown(t *testing.T) {
	for _, line := range []string{"0 write 8 0 0 ! Down", "0 natwrite 8 0 data=1x128 ! Down", "0 flush ! Down"} {
		d, k := sceneOnDisk(t)
		d.Arm(0)
		script(t, "P11.7", k, line)
		if !d.Down() {
			t.Errorf("P11.7: %s: the disk is up", line)
		}
		script(t, "P11.10", k, "0 read 7 0 0 ! Down\n0 natread 7 0 ! Down")
	}
}

func TestClaim(t *testing.T) {
	k := boot(t)
	script(t, "P11.11", k, `
		0 claim 1 = 0 1
		0 claim 0 = 1 0
		0 claim -1 = 2 2
		0 claim 31 = 3 31
		0 info 3 = 3 15
		0 drop 1 =
		0 claim -1 = 1 0`)
	for _, n := range append(slices.Clone(far), 32, 33) {
		script(t, "P11.11", k, fmt.Sprintf("0 claim %d ! Extent", n))
	}
}

// TestClaimKeepsBytes: what an earlier holder wrote is there for the next.
func TestClaimKeepsBytes(t *testing.T) {
	k := boot(t)
	script(t, "P11.11", k, `
		0 claim 9 = 0 9
		0 natwrite 0 31 data=5x128 =
		0 drop 0 =
		0 alloc = 0
		0 claim 9 = 1 9`)
	if got := ask(t, k, "0 natread 1 31"); !slices.Equal(got.Data, bytesOf(128, 5)) {
		t.Errorf("P11.11: % x", got.Data)
	}
}

func TestRowsOfAnEnvironment(t *testing.T) {
	k := scene(t)
	data := make([]byte, 36)
	for i := range data {
		data[i] = byte(i + 1)
	}
	if got := k.Call(0, api.Request{Call: api.NatSet, A: [6]int{1, 0, 4, 1<<32 - 1, 1<<32 - 2}, Data: data}); got.Code != api.OK {
		t.Fatalf("P11.11: set: %d", got.Code)
	}
	script(t, "P11.11", k, "0 freeze 1 0 1 = 0\n0 env 1 0 = -1 44\n0 env -1 1 = 0 44")
	rows(t, "P11.11", k, "0 env 1 0",
		[8]int{4, 1<<32 - 1, 1<<32 - 2, 1, 8, 3, 2, 3},
		[8]int{0x04030201, 0x08070605, 0x0c0b0a09, 0x100f0e0d, 0x14131211, 0x18171615, 0x1c1b1a19, 0x201f1e1d},
		[8]int{0x24232221, 5, 2, 1})
	if x := look(t, k, 1); x.Regs.PC != 0x24232221 || x.Regs.R[7] != 0x201f1e1d || x.Regs.R[0] != 0x04030201 {
		t.Errorf("P11.11: set: %+v", x)
	}
}

// TestRowsOfCapabilities: what lies outside the capability's tree is not told, and From goes up to the nearest that lies in it.
func TestRowsOfCapabilities(t *testing.T) {
	k := boot(t)
	script(t, "P11.11", k, `
		0 spawn 9 3 3 = 0
		0 spawn 9 0 0 = 1
		0 new 0 0 3 0 0 = 1
		0 claim 5 = 2 5
		1 alloc = 0
		0 place 0 0 0 1 15 = 1
		0 place 1 0 0 2 3 = 2
		0 place 2 0 0 3 7 = 3
		0 copy 0 0 0 1 4 5 = 4
		2 alloc = 0
		0 self 0 1 0 5 1 = 5
		2 self -1 0 0 1 15 = 1
		0 clean 0 0 0 = 8 1
		0 grant 0 1 15 =
		2 grant 1 1 15 =`)
	rows(t, "P11.11", k, "0 caps 0 0",
		[8]int{0, 1, 15, 6, -1, -1, -1, 0},
		[8]int{1, 2, 15, 2, 0, -1, -1, 0},
		[8]int{2, 2, 3, 3, -1, -1, -1, 0},
		[8]int{3, 3, 7, 5, -1, -1, -1, 0},
		[8]int{5, 2, 1, 4, 1, -1, -1, 0})
	rows(t, "P11.11", k, "0 caps 0 1", [8]int{4, 1, 5, 6, -1, 0, 0, 0})
	rows(t, "P11.11", k, "3 caps -1 0", [8]int{4, 1, 5, 6, -1, -1, -1, 0})
	rows(t, "P11.11", k, "0 caps -1 1",
		[8]int{0, 1, 15, 6, -1, -1, -1, 0},
		[8]int{1, 2, 15, 2, 1, 0, 0, 0},
		[8]int{2, 2, 3, 3, 3, 0, 1, 0},
		[8]int{3, 3, 7, 5, -1, 0, 2, 0},
		[8]int{5, 2, 1, 4, 2, -1, -1, 0})
	rows(t, "P11.11", k, "2 caps -1 0",
		[8]int{0, 1, 15, 7, -1, -1, -1, 1},
		[8]int{1, 2, 15, 3, 0, -1, -1, 0},
		[8]int{2, 2, 15, 2, -1, -1, -1, 0},
		[8]int{3, 2, 15, 3, 0, 0, 1, 0})
}

func TestCleanAndPage(t *testing.T) {
	k := scene(t)
	script(t, "P11.11", k, `
		0 fill 3 data=9x128 =
		0 page 5 0 5 = 1 0 2
		0 clean 6 0 5 = 6 1
		0 page -1 0 11 = 0 6 2
		0 clean -1 0 0 = 6 0
		0 fill 0 data=9x128 =
		0 page 1 0 7 = 1 6 2
		0 clean 1 0 7 = 7 1`)
	if got := ask(t, k, "0 page 1 0 7"); !slices.Equal(got.Data, bytesOf(128, 9)) {
		t.Errorf("P11.11: page: % x", got.Data)
	}
}

// TestSelf: the capability has no parent, so that nobody revokes it.
func TestSelf(t *testing.T) {
	k := scene(t)
	script(t, "P11.11", k, `
		0 self 1 1 0 -1 11 = 0
		0 self 10 0 1 40 12 = 40
		0 self -1 0 2 -1 1 = 0
		1 info 0 = 2 11
		2 info 40 = 2 12
		2 info 0 = 2 1
		0 revoke 1 =
		1 info 0 = 2 11
		2 info 40 = 2 12`)
	for env, want := range map[int]map[int]int{1: {0: 5}, 2: {40: 3, 0: 1}} {
		for slot, serial := range want {
			if k.SerialOf(env, slot) != serial {
				t.Errorf("P11.11: self: SerialOf(%d, %d) = %d, want %d", env, slot, k.SerialOf(env, slot), serial)
			}
		}
	}
}

// TestKill: the whole tree ends, with what lies in its lists and what names it.
func TestKill(t *testing.T) {
	k := boot(t)
	script(t, "P11.13", k, `
		0 spawn 9 3 3 = 0
		0 spawn 9 0 3 = 1
		0 new 0 0 3 1 1 = 1
		0 new 0 1 1 0 0 = 2
		0 alloc = 2
		0 claim 7 = 3 7
		0 place 2 0 2 5 15 = 5
		0 place 3 0 0 5 15 = 5
		0 place 2 0 0 6 7 = 6
		0 natmapin 0 0 0 6 1 =
		0 self 0 1 0 7 15 = 7
		1 derive 7 15 = 0
		2 alloc = 0
		0 place 0 1 0 9 15 = 9
		0 self 0 2 0 8 1 = 8
		0 grant 2 1 7 =
		0 left = 45 10 25`)
	if n := len(k.State().Frames); n != 2 {
		t.Errorf("P11.13: %d frames", n)
	}
	script(t, "P11.13", k, "1 kill 7 =")
	s := k.State()
	for _, x := range s.Envs {
		if x.Num > 2 {
			t.Errorf("P11.13: environment %d lives", x.Num)
		}
	}
	script(t, "P11.13", k, `
		1 info 7 ! NoCap
		1 info 0 ! NoCap
		1 info 8 ! NoCap
		1 left = 8 3 2
		0 kill 0 =
		2 info 9 ! NoCap
		0 left = 54 14 28
		0 count -1 = 2`)
	s = k.State()
	if len(s.Envs) != 2 || len(s.Maps) != 0 || len(s.Frames) != 2 || !slices.Equal(s.Extents, []api.ExtState{{Num: 7, Serial: 7, Holds: 1}}) {
		t.Errorf("P11.13: %+v", s)
	}
	// A new environment with the old number has nothing of the old one.
	script(t, "P11.13", k, "0 spawn 1 0 0 = 0\n0 env 0 0 = -1 48")
	rows(t, "P11.13", k, "0 maps 0 0")
	rows(t, "P11.13", k, "0 caps 0 0")
}

// TestKillPassesChildrenOn: a capability whose ancestors went has the nearest one that is left for its parent.
func TestKillPassesChildrenOn(t *testing.T) {
	k := boot(t)
	script(t, "P11.13", k, `
		0 spawn 9 1 0 = 0
		0 spawn 9 0 0 = 1
		0 new 0 0 5 0 0 = 1
		0 alloc = 2
		0 place 2 0 0 0 15 = 0
		0 copy 0 0 0 1 0 15 = 0
		0 self 1 0 0 -1 15 = 0
		0 place 1 0 1 1 15 = 1
		3 grant 0 1 7 =
		1 alloc = 1
		0 grant 1 0 15 =
		1 grant 1 2 1 =
		0 kill 0 =`)
	var got []api.CapState
	for _, c := range k.State().Caps {
		if c.Held.Cap.Kind == api.KindFrame && c.Held.Env == 2 {
			got = append(got, c)
		}
	}
	want := []api.CapState{
		{Held: api.Held{Env: 2, Slot: 1, Cap: api.Cap{Kind: 1, Obj: 0, Serial: 5, Rights: 7}}, From: api.Place{Env: 0, Slot: 2}},
		{Held: api.Held{Env: 2, Slot: 2, Cap: api.Cap{Kind: 1, Obj: 1, Serial: 6, Rights: 1}}, From: api.Place{Env: -1, Slot: -1}},
	}
	if !slices.Equal(got, want) {
		t.Errorf("P11.13: %+v, want %+v", got, want)
	}
	script(t, "P11.13", k, "0 revoke 2 =\n2 info 1 ! NoCap\n2 info 2 = 1 1")
}

// TestKillWhom: only one that is properly below the caller, whatever the rights.
func TestKillWhom(t *testing.T) {
	k := boot(t)
	script(t, "P11.10", k, `
		0 spawn 1 2 0 = 0
		0 spawn 1 2 0 = 1
		0 self -1 0 1 0 15 = 0
		0 self -1 0 0 -1 15 = 2
		0 self 1 0 0 -1 15 = 0
		0 place 1 0 0 1 15 = 1
		0 new 0 0 0 0 0 = 1
		0 self 0 1 0 2 15 = 2
		0 place 2 0 1 0 15 = 0
		0 kill 2 ! Self
		1 kill 0 ! Self
		1 kill 1 ! Self
		3 kill 0 ! Self
		2 kill 0 ! Self
		1 kill 2 =
		0 kill 1 =
		0 kill 0 =
		0 count -1 = 1`)
}
