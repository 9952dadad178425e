package gate_test

import (
	"fmt"
	"math"
	"reflect"
	"slices"
	"strings"
	"testing"

	"amber/api"
	"amber/disk"
	"amber/gate"
)

// scene: environment 0 with capabilities of all kinds and few rights; environment 1 below it, and 2 below that.
func scene(t *testing.T) *gate.Kernel {
	t.Helper()
	_, k := sceneOnDisk(t)
	return k
}

func sceneOnDisk(t *testing.T) (*disk.Disk, *gate.Kernel) {
	t.Helper()
	d := disk.New()
	k := gate.Boot(d, 1)
	script(t, "P11.10", k, `
		0 alloc = 0
		0 spawn 8 3 2 = 1
		0 claim 3 = 2 3
		0 derive 0 2 = 3
		0 derive 0 1 = 4
		0 derive 1 1 = 5
		0 derive 1 2 = 6
		0 derive 2 1 = 7
		0 derive 2 2 = 8
		0 derive 0 4 = 9
		0 derive 1 12 = 10
		0 derive 0 0 = 11
		0 map 0 0 1 =
		0 map 1 4 0 =
		0 place 0 1 0 5 7 = 5
		0 place 2 1 0 6 3 = 6
		0 place 0 1 0 7 1 = 7
		0 natmapin 1 0 3 5 1 =
		0 new 1 0 1 0 0 = 1
		0 self 1 0 0 8 15 = 8`)
	return d, k
}

// TestOrderOfErrors: in each line all the errors behind the one that is told apply too, as far as they can.
func TestOrderOfErrors(t *testing.T) {
	k := scene(t)
	script(t, "P11.8", k, `
		9 99 -1 -1 ! Env
		9 exit -1 ! Env
		-1 yield ! Env
		16 yield ! Env
		3 spawn -1 ! Env
		0 99 -1 ! Call
		0 -1 ! Call
		0 25 ! Call
		0 31 ! Call
		0 51 ! Call

		1 exit -1 ! Arg
		1 exit 0 ! State
		0 exit 4294967296 ! Arg
		0 exit 4294967295 ! State
		0 wait ! State
		1 wait ! State
		0 ask ! State

		0 map 99 99 2 ! Arg
		0 map 99 99 1 ! NoCap
		0 map 99 -1 0 ! NoCap
		0 map 99 12 0 ! NoCap
		0 map 99 5 1 ! Kind
		0 map 99 7 1 ! Kind
		0 map 99 4 1 ! Rights
		0 map 99 3 0 ! Rights
		0 map 99 3 1 ! Rights
		0 map 99 0 1 ! Page
		0 map -1 0 1 ! Page
		0 map 0 0 1 ! Mapped
		0 map 1 0 1 ! Mapped

		0 unmap 16 ! Page
		0 unmap -1 ! Page
		0 unmap 2 ! Unmapped

		0 derive 99 16 ! Arg
		0 derive 99 1 ! NoCap
		0 derive -1 1 ! NoCap
		0 derive 4 0 ! Rights
		0 derive 9 1 ! Rights
		0 derive 10 5 ! Rights

		0 grant 99 99 -1 ! Arg
		0 grant 99 99 1 ! NoCap
		0 grant 4 99 1 ! Rights
		0 grant 9 99 1 ! Rights
		0 grant 0 99 1 ! NoCap
		0 grant 0 -1 1 ! NoCap
		0 grant 0 0 1 ! Kind
		0 grant 0 2 1 ! Kind
		0 grant 0 5 1 ! Rights
		0 grant 0 10 1 ! Rights

		0 drop 12 ! NoCap
		0 drop -1 ! NoCap
		0 revoke 48 ! NoCap
		0 revoke -1 ! NoCap
		0 info 12 ! NoCap
		0 info -1 ! NoCap

		0 spawn 0 0 1048577 ! Arg
		0 spawn 99 99 -1 ! Arg
		0 spawn 57 0 0 ! NoSpace
		0 spawn 0 11 0 ! NoSpace
		0 spawn 0 0 28 ! NoSpace

		0 start 99 -1 ! Arg
		0 start 99 0 ! NoCap
		0 start -1 0 ! NoCap
		0 start 0 0 ! Kind
		0 start 5 0 ! Rights
		0 start 10 0 ! Rights
		0 notify 99 -1 ! Arg
		0 notify 99 0 ! NoCap
		0 notify -1 0 ! NoCap
		0 notify 2 0 ! Kind
		0 notify 5 0 ! Rights
		0 kill 99 ! NoCap
		0 kill -1 ! NoCap
		0 kill 2 ! Kind
		0 kill 5 ! Rights
		0 kill 6 ! Rights
		1 kill 8 ! Self
		0 emit -1 ! Arg
		0 emit 4294967296 ! Arg

		0 read 99 99 99 ! NoCap
		0 read -1 99 99 ! NoCap
		0 read 0 99 99 ! Kind
		0 read 8 99 99 ! Rights
		0 read 7 32 99 ! Sector
		0 read 7 -1 99 ! Sector
		0 read 7 0 16 ! Page
		0 read 7 0 -1 ! Page
		0 read 7 0 2 ! Unmapped
		0 read 7 0 1 ! ReadOnly
		0 write 99 99 99 ! NoCap
		0 write -1 99 99 ! NoCap
		0 write 1 99 99 ! Kind
		0 write 7 99 99 ! Rights
		0 write 8 32 99 ! Sector
		0 write 8 -1 99 ! Sector
		0 write 8 0 16 ! Page
		0 write 8 0 2 ! Unmapped

		0 protect 99 2 ! Arg
		0 protect 16 1 ! Page
		0 protect -1 1 ! Page
		0 protect 2 1 ! Unmapped
		0 protect 1 1 ! Rights

		0 mapin 99 99 99 2 ! Arg
		0 mapin 99 99 99 1 ! NoCap
		0 mapin -1 99 99 1 ! NoCap
		0 mapin 0 99 99 1 ! Kind
		0 mapin 5 99 99 1 ! Rights
		0 mapin 6 99 99 1 ! NoCap
		0 mapin 6 99 -1 1 ! NoCap
		0 mapin 6 99 0 1 ! NoCap
		0 mapin 6 99 6 1 ! Kind
		0 mapin 6 99 7 1 ! Rights
		0 mapin 6 16 5 1 ! Page
		0 mapin 6 -1 5 1 ! Page
		0 mapin 6 3 5 1 ! Mapped

		0 status 99 ! NoCap
		0 status -1 ! NoCap
		0 status 0 ! Kind
		0 status 6 ! Rights
		0 setreg 99 9 0 ! Arg
		0 setreg 99 -1 0 ! Arg
		0 setreg 99 0 -1 ! Arg
		0 setreg 99 0 0 ! NoCap
		0 setreg -1 0 0 ! NoCap
		0 setreg 0 0 0 ! Kind
		0 setreg 5 0 0 ! Rights
		0 getreg 99 9 ! Arg
		0 getreg 99 -1 ! Arg
		0 getreg 99 0 ! NoCap
		0 getreg -1 0 ! NoCap
		0 getreg 0 0 ! Kind
		0 getreg 6 0 ! Rights`)
}

func TestOrderOfErrorsOfNativeCalls(t *testing.T) {
	k := scene(t)
	// Those that take es, k and a right of es: the errors of es, then of k.
	for _, line := range []string{"env %d %d", "caps %d %d", "maps %d %d", "page %d %d 99"} {
		script(t, "P11.8", k, esErrors(line, 6))
	}
	for _, line := range []string{"clean %d %d 99", "freeze %d %d 1", "new %d %d 99 99 99", "set %d %d 0 0 0 data=1x36", "natmapin %d %d 99 99 1", "copy %d %d 99 99 5 1"} {
		script(t, "P11.8", k, esErrors(line, 5))
	}
	script(t, "P11.8", k, esErrors("self %d %d 99 5 1", 6))
	script(t, "P11.8", k, esErrors("place 0 %d %d 5 1", 5))
	script(t, "P11.8", k, `
		0 count 99 ! NoCap
		0 count -2 ! NoCap
		0 count 0 ! Kind
		0 count 6 ! Rights

		0 page 1 0 99 ! NoCap
		0 page 1 0 -1 ! NoCap
		0 page 1 0 0 ! NoCap
		0 page 1 0 6 ! Kind
		0 page 1 0 8 ! Kind
		0 clean 1 0 99 ! NoCap
		0 clean 1 0 -1 ! NoCap
		0 clean 1 1 5 ! NoCap
		0 clean 1 0 6 ! Kind
		0 clean 1 0 8 ! Kind

		0 freeze 99 99 2 ! Arg
		0 new 99 99 0 0 1048577 ! Arg
		0 new 99 99 -1 0 0 ! Arg
		0 new 1 0 9 0 0 ! NoSpace
		0 new 1 0 0 2 0 ! NoSpace
		0 new 1 0 0 0 2 ! NoSpace
		0 new 1 1 0 0 0 ! NoSpace

		0 set 99 99 5 0 0 ! Arg
		0 set 99 99 -1 0 0 ! Arg
		0 set 99 99 0 -1 0 ! Arg
		0 set 99 99 0 0 4294967296 ! Arg
		0 set 99 99 0 0 0 ! Size
		0 set 99 99 0 0 0 data=1x35 ! Size
		0 set 99 99 0 0 0 data=1x37 ! Size
		0 set 99 99 0 0 0 data=1x128 ! Size

		0 fill 99 ! Size
		0 fill 99 data=1x127 ! Size
		0 fill 99 data=1x129 ! Size
		0 fill 99 data=1x128 ! NoCap
		0 fill -1 data=1x128 ! NoCap
		0 fill 1 data=1x128 ! Kind
		0 fill 4 data=1x128 ! Rights

		0 place 99 99 99 48 99 ! Arg
		0 place 99 99 99 -2 0 ! Arg
		0 place 99 99 99 5 16 ! Arg
		0 place 99 99 99 5 1 ! NoCap
		0 place -1 99 99 5 1 ! NoCap
		0 place 4 99 99 5 1 ! Rights
		0 place 9 99 99 5 1 ! Rights
		0 place 0 1 1 5 1 = 5
		0 place 0 1 1 5 1 ! Taken
		0 place 0 1 1 6 1 ! NoSpace
		0 place 0 1 1 -1 1 ! NoSpace
		0 place 2 1 1 -1 1 ! NoSpace

		0 copy 99 99 99 99 48 0 ! Arg
		0 copy 99 99 99 99 0 16 ! Arg
		0 copy 1 0 99 2 5 1 ! Arg
		0 copy 1 0 99 -1 5 1 ! Arg
		0 copy 1 0 99 1 5 1 ! NoCap
		0 copy 1 0 -1 1 5 1 ! NoCap
		0 copy 1 0 7 1 5 1 ! Rights
		0 copy 1 0 5 1 5 8 ! Rights
		0 copy 1 0 6 1 5 1 ! Rights
		0 copy 1 0 5 1 5 1 ! Taken
		0 copy 1 0 5 1 -1 1 ! NoSpace

		0 self 99 99 99 48 0 ! Arg
		0 self 99 99 99 0 16 ! Arg
		0 self 10 0 99 5 1 ! Rights
		0 self 10 0 99 5 4 ! Arg
		0 self 10 0 -1 5 4 ! Arg
		0 self 10 2 0 5 4 ! Arg
		0 self 10 0 0 5 4 ! Taken

		0 natmapin 99 99 99 99 2 ! Arg
		0 natmapin 1 0 99 99 1 ! NoCap
		0 natmapin 1 0 99 -1 1 ! NoCap
		0 natmapin 1 0 99 6 1 ! Kind
		0 natmapin 1 0 99 7 1 ! Rights
		0 natmapin 1 0 16 5 1 ! Page
		0 natmapin 1 0 -1 5 1 ! Page
		0 natmapin 1 0 3 5 1 ! Mapped

		2 claim 32 ! Extent
		2 claim -2 ! Extent
		2 claim 3 ! Claimed
		2 claim 4 ! NoSpace
		2 claim -1 ! NoSpace

		0 natread 99 99 ! NoCap
		0 natread -1 99 ! NoCap
		0 natread 0 99 ! Kind
		0 natread 8 99 ! Rights
		0 natread 7 32 ! Sector
		0 natread 7 -1 ! Sector
		0 natwrite 99 99 ! Size
		0 natwrite 99 99 data=1x127 ! Size
		0 natwrite 99 99 data=1x128 ! NoCap
		0 natwrite -1 99 data=1x128 ! NoCap
		0 natwrite 0 99 data=1x128 ! Kind
		0 natwrite 7 99 data=1x128 ! Rights
		0 natwrite 8 32 data=1x128 ! Sector
		0 natwrite 8 -1 data=1x128 ! Sector`)
}

// esErrors: a native call of the scene's environment 0 with an es that is wrong, then a k that is; weak is a slot with a capability on an environment that has not the right.
func esErrors(line string, weak int) string {
	var b strings.Builder
	for _, x := range []struct {
		es, k int
		want  string
	}{{99, 99, "NoCap"}, {12, 99, "NoCap"}, {-2, 99, "NoCap"}, {math.MinInt, 99, "NoCap"}, {0, 99, "Kind"}, {2, 99, "Kind"}, {weak, 99, "Rights"}, {1, 2, "Arg"}, {1, -1, "Arg"}, {1, 99, "Arg"}, {-1, 3, "Arg"}, {-1, -1, "Arg"}} {
		fmt.Fprintf(&b, "0 "+line+" ! %s\n", x.es, x.k, x.want)
	}
	return b.String()
}

// TestDownComesLast: whatever else is wrong is told ahead of a disk that is down.
func TestDownComesLast(t *testing.T) {
	d, k := sceneOnDisk(t)
	d.Arm(0)
	d.Flush()
	script(t, "P11.8", k, `
		0 read 7 32 0 ! Sector
		0 read 7 0 1 ! ReadOnly
		0 read 7 0 0 ! Down
		0 write 8 0 2 ! Unmapped
		0 write 8 0 0 ! Down
		0 natread 7 32 ! Sector
		0 natread 7 0 ! Down
		0 natwrite 8 32 data=1x128 ! Sector
		0 natwrite 8 0 data=1x127 ! Size
		0 natwrite 8 0 data=1x128 ! Down
		0 flush ! Down
		0 claim 4 = 12 4
		0 drop 12 =`)
}

// bounded: which arguments have bounds of their own, by name, place and bounds.
type bounded struct {
	call      string
	at        int
	low, high int
}

var bounds = []bounded{
	{"exit", 0, 0, 1<<32 - 1}, {"map", 2, 0, 1}, {"derive", 1, 0, 15}, {"grant", 2, 0, 15},
	{"spawn", 0, 0, 1048576}, {"spawn", 1, 0, 1048576}, {"spawn", 2, 0, 1048576},
	{"start", 1, 0, 1<<32 - 1}, {"notify", 1, 0, 1<<32 - 1}, {"emit", 0, 0, 1<<32 - 1}, {"protect", 1, 0, 1}, {"mapin", 3, 0, 1},
	{"setreg", 1, 0, 8}, {"setreg", 2, 0, 1<<32 - 1}, {"getreg", 1, 0, 8}, {"freeze", 2, 0, 1},
	{"new", 2, 0, 1048576}, {"new", 3, 0, 1048576}, {"new", 4, 0, 1048576},
	{"set", 2, 0, 4}, {"set", 3, 0, 1<<32 - 1}, {"set", 4, 0, 1<<32 - 1},
	{"place", 3, -1, 47}, {"place", 4, 0, 15}, {"copy", 4, -1, 47}, {"copy", 5, 0, 15}, {"self", 3, -1, 47}, {"self", 4, 0, 15},
	{"natmapin", 4, 0, 1},
}

// TestNumbersThatMayNotBe: an argument out of its bounds is ErrArg, whatever else is wrong; at its bounds it is not.
func TestNumbersThatMayNotBe(t *testing.T) {
	k := scene(t)
	for _, b := range bounds {
		r := api.Request{Call: number(t, b.call)}
		for _, other := range bounds {
			if other.call == b.call {
				r.A[other.at] = other.low
			}
		}
		for i := range r.A {
			if !slices.ContainsFunc(bounds, func(o bounded) bool { return o.call == b.call && o.at == i }) {
				r.A[i] = 99
			}
		}
		for _, n := range []int{b.low, b.high} {
			r.A[b.at] = n
			if got := k.Call(0, r); got.Code == api.ErrArg {
				t.Errorf("P11.8: %s %v: %d may be", b.call, r.A, n)
			}
		}
		before := k.State()
		for _, n := range []int{math.MinInt, b.low - 1<<32, b.low - 2, b.low - 1, b.high + 1, b.high + 2, b.high + 1<<32, math.MaxInt} {
			r.A[b.at] = n
			if got := k.Call(0, r); !reflect.DeepEqual(got, api.Reply{Code: api.ErrArg}) {
				t.Errorf("P11.8: %s %v: %+v, want ErrArg", b.call, r.A, got)
			}
		}
		if !reflect.DeepEqual(k.State(), before) {
			t.Errorf("P11.7: %s changed something", b.call)
		}
	}
}

// TestFarNumbers: whatever the numbers are no call panics, and a number that is no slot, page, place or sector is refused.
func TestFarNumbers(t *testing.T) {
	k := scene(t)
	numberless := strings.Fields("yield alloc emit left flush natleft")
	for call := range 51 {
		for _, n := range far {
			for _, size := range []int{0, 36, 128} {
				got := k.Call(0, api.Request{Call: call, A: [6]int{n, n, n, n, n, n}, Data: bytesOf(size, 1)})
				if got.Code == api.OK && !slices.Contains(numberless, gate.Name(call)) {
					t.Errorf("P11.8: %s of %d is done", gate.Name(call), n)
				}
			}
		}
	}
}

// TestUnnamedIsIgnored: what a call doesn't name does not matter.
func TestUnnamedIsIgnored(t *testing.T) {
	for _, line := range []string{
		"0 yield", "0 alloc", "0 map 2 0 1", "0 unmap 0", "0 derive 0 3", "0 grant 0 1 3", "0 drop 0", "0 revoke 0", "0 spawn 1 1 1", "0 start 1 5", "0 notify 1 5",
		"0 kill 1", "0 emit 5", "0 info 0", "0 read 2 0 0", "0 write 2 0 0", "0 protect 0 0", "0 mapin 1 4 5 1", "0 left", "0 status 1", "0 setreg 1 1 5", "0 getreg 1 8",
		"0 count 1", "0 env 1 1", "0 caps 1 0", "0 maps 1 0", "0 page 1 0 5", "0 clean 1 0 5", "0 freeze 1 1 1", "0 new 1 0 1 0 0", "0 place 0 1 0 9 3", "0 self 1 1 0 9 3",
		"0 natmapin 1 0 4 5 1", "0 claim 5", "0 natread 2 0", "0 flush", "0 natleft", "0 set 1 0 1 2 3 data=7x36", "0 fill 0 data=7x128", "0 natwrite 2 3 data=7x128", "0 copy 1 0 5 0 9 1",
	} {
		plain, junk := scene(t), scene(t)
		e, r := request(t, line)
		want := plain.Call(e, r)
		if want.Code != api.OK {
			t.Errorf("P11.7: %s: %d", line, want.Code)
		}
		for i := len(strings.Fields(line)) - 2; i < len(r.A); i++ {
			if !strings.Contains(line, "data=") || i > len(strings.Fields(line))-3 {
				r.A[i] = math.MinInt + i
			}
		}
		if r.Data == nil {
			r.Data = bytesOf(77, 1)
		}
		if got := junk.Call(e, r); !reflect.DeepEqual(got, want) || !reflect.DeepEqual(junk.State(), plain.State()) {
			t.Errorf("P11.7: %s: with more arguments than it names: %+v, want %+v", line, got, want)
		}
	}
}

// TestGuest: it answers what Call answers, but has no native calls.
func TestGuest(t *testing.T) {
	for call := -2; call < 60; call++ {
		for _, env := range []int{0, 1, 7, -1, 16} {
			x, y := scene(t), scene(t)
			r := api.Request{Call: call, A: [6]int{1, 0, 0, 0, 0, 0}, Data: bytesOf(128, 1)}
			got, want := x.Guest(env, r), y.Call(env, r)
			if call >= 32 && env != 0 && env != 1 {
				want = api.Reply{Code: api.ErrEnv}
			} else if call >= 32 {
				want = api.Reply{Code: api.ErrCall}
				y = scene(t)
			}
			if !reflect.DeepEqual(got, want) || !reflect.DeepEqual(x.State(), y.State()) {
				t.Errorf("P11.7: Guest(%d, %d) = %+v, want %+v", env, call, got, want)
			}
		}
	}
	k := scene(t)
	for _, n := range far {
		if got := k.Guest(0, api.Request{Call: n}); got.Code != api.ErrCall && (n < 0 || n > 24) {
			t.Errorf("P11.7: Guest(0, %d) = %d", n, got.Code)
		}
	}
}

// TestCallerItself: -1 is the caller in native calls, with all rights, and nobody in the guests' calls.
func TestCallerItself(t *testing.T) {
	k := scene(t)
	script(t, "P11.9", k, `
		0 count -1 = 3
		1 count -1 = 2
		2 count -1 = 1
		1 env -1 0 = -1 44
		1 env -1 1 = 0 48
		0 env -1 2 = 1 48
		2 freeze -1 0 1 = 0
		2 freeze -1 0 0 = 1
		1 new -1 0 0 0 0 = 2
		1 place 5 -1 1 3 1 = 3
		1 copy -1 0 5 0 9 1 = 9
		1 natmapin -1 1 0 3 0 =
		1 self -1 0 1 4 15 = 4
		2 page -1 0 3 = 1 0 2
		2 clean -1 0 3 = 7 1
		2 set -1 0 4 5 6 data=0x36 =
		2 status 4 = 0
		0 start -1 0 ! NoCap
		0 notify -1 0 ! NoCap
		0 kill -1 ! NoCap
		0 status -1 ! NoCap
		0 setreg -1 0 0 ! NoCap
		0 getreg -1 0 ! NoCap
		0 grant 0 -1 1 ! NoCap
		0 mapin -1 4 0 1 ! NoCap`)
	if x := look(t, k, 2); x.State != 4 || x.Code != 5 || x.Bits != 6 {
		t.Errorf("P11.9: %+v", x)
	}
}

// TestStateOfTheCallerDoesNotMatter: one that is done, faulted, waiting or frozen may call as well.
func TestStateOfTheCallerDoesNotMatter(t *testing.T) {
	for state := range 5 {
		k := scene(t)
		script(t, "P11.7", k, fmt.Sprintf(`
			0 set 1 0 %d 7 0 data=0x36 =
			0 freeze 1 0 1 = 0
			1 alloc = 0
			1 map 0 0 1 =
			1 spawn 0 0 0 = 1
			1 left = 4 1 1
			1 drop 0 =`, state))
	}
}
