package gate_test

import (
	"math"
	"reflect"
	"slices"
	"strconv"
	"strings"
	"testing"

	"amber/api"
	"amber/disk"
	"amber/gate"
)

// guests, natives: the names of the calls, from 0 and from 32 on.
const (
	guests  = "yield exit alloc map unmap derive grant drop revoke spawn start notify wait kill emit info read write protect mapin left status setreg getreg ask"
	natives = "count env caps maps page clean freeze new set fill place copy self natmapin claim natread natwrite flush natleft"
)

// errors by the names that the scripts below call them.
var errors = map[string]api.Errno{
	"Arg": 1, "NoSpace": 2, "Taken": 31, "Sector": 40, "Size": 41, "Down": 42, "Page": 60, "Mapped": 61, "Unmapped": 62, "ReadOnly": 63,
	"NoCap": 80, "Rights": 81, "Kind": 82, "Env": 90, "State": 91, "Self": 92, "Extent": 100, "Claimed": 101, "Call": 110,
}

// far: numbers that are no place of anything.
var far = []int{math.MinInt, math.MinInt + 1, -1 << 61, -1 << 32, -49, -3, -2, 48, 49, 64, 1024, 1 << 32, 1<<32 + 1, 1 << 59, 1 << 62, math.MaxInt}

// number tells a call's number by its name.
func number(t *testing.T, name string) int {
	t.Helper()
	if i := slices.Index(strings.Fields(guests), name); i >= 0 {
		return i
	}
	if i := slices.Index(strings.Fields(natives), name); i >= 0 {
		return 32 + i
	}
	n, err := strconv.Atoi(name)
	if err != nil {
		t.Fatalf("no call: %s", name)
	}
	return n
}

func numbers(t *testing.T, words []string) []int {
	t.Helper()
	var out []int
	for _, w := range words {
		n, err := strconv.Atoi(w)
		if err != nil {
			t.Fatalf("no number: %s", w)
		}
		out = append(out, n)
	}
	return out
}

func bytesOf(n int, b byte) []byte {
	out := make([]byte, n)
	for i := range out {
		out[i] = b
	}
	return out
}

// request reads "env name args", with "data=9x128" for 128 bytes 9.
func request(t *testing.T, text string) (int, api.Request) {
	t.Helper()
	words := strings.Fields(text)
	r := api.Request{Call: number(t, words[1])}
	if last := words[len(words)-1]; strings.HasPrefix(last, "data=") {
		b, n, _ := strings.Cut(last[len("data="):], "x")
		l := numbers(t, []string{b, n})
		r.Data = bytesOf(l[1], byte(l[0]))
		words = words[:len(words)-1]
	}
	copy(r.A[:], numbers(t, words[2:]))
	return numbers(t, words[:1])[0], r
}

// script makes calls, a line each: "env name args = V0 V1 .." or "env name args ! error"; what is not told of V is 0. The promise is named where one is broken.
func script(t *testing.T, promise string, k *gate.Kernel, lines string) {
	t.Helper()
	for line := range strings.SplitSeq(lines, "\n") {
		line = strings.TrimSpace(line)
		if line == "" {
			continue
		}
		var want api.Reply
		text, refused, isRefused := strings.Cut(line, " !")
		if isRefused {
			want.Code = errors[strings.TrimSpace(refused)]
			if want.Code == 0 {
				t.Fatalf("no error: %s", line)
			}
		} else {
			var v string
			text, v, _ = strings.Cut(line, " =")
			copy(want.V[:], numbers(t, strings.Fields(v)))
		}
		e, r := request(t, text)
		before := k.State()
		got := k.Call(e, r)
		if got.Code != want.Code || got.V != want.V {
			t.Errorf("%s: %s: it was %d %v", promise, line, got.Code, got.V)
		}
		if isRefused && (got.Data != nil || got.Rows != nil) {
			t.Errorf("P11.7: %s: a refused call tells more than its code", line)
		}
		if isRefused && !reflect.DeepEqual(k.State(), before) {
			t.Errorf("P11.7: %s: a refused call changed something", line)
		}
	}
}

// ask makes one call, which must be done.
func ask(t *testing.T, k *gate.Kernel, text string) api.Reply {
	t.Helper()
	e, r := request(t, text)
	got := k.Call(e, r)
	if got.Code != api.OK {
		t.Errorf("P11.7: %s: %d", text, got.Code)
	}
	return got
}

func boot(t *testing.T) *gate.Kernel {
	t.Helper()
	k := gate.Boot(disk.New(), 1)
	if k == nil {
		t.Fatal("P11.1: no kernel")
	}
	return k
}

func look(t *testing.T, k *gate.Kernel, env int) api.Env {
	t.Helper()
	x, code := k.Env(env)
	if code != api.OK {
		t.Errorf("P11.4: Env(%d): %d", env, code)
	}
	return x
}

func load(t *testing.T, promise string, k *gate.Kernel, env int, addr, want uint32, code api.Errno) {
	t.Helper()
	if w, c := k.Load(env, addr); w != want || c != code {
		t.Errorf("%s: Load(%d, %d) = %d, %d, want %d, %d", promise, env, addr, w, c, want, code)
	}
}

func store(t *testing.T, promise string, k *gate.Kernel, env int, addr, v uint32, code api.Errno) {
	t.Helper()
	if c := k.Store(env, addr, v); c != code {
		t.Errorf("%s: Store(%d, %d) = %d, want %d", promise, env, addr, c, code)
	}
}

func rows(t *testing.T, promise string, k *gate.Kernel, text string, want ...[8]int) {
	t.Helper()
	if got := ask(t, k, text).Rows; !slices.Equal(got, want) {
		t.Errorf("%s: %s: rows %v, want %v", promise, text, got, want)
	}
}

func TestBoot(t *testing.T) {
	for _, serial := range []int{math.MinInt, -1, 0, 1<<61 + 1, 1 << 62, math.MaxInt} {
		if gate.Boot(disk.New(), serial) != nil {
			t.Errorf("P11.1: Boot(d, %d) is a kernel", serial)
		}
	}
	if gate.Boot(nil, 1) != nil || gate.Boot(nil, 0) != nil {
		t.Error("P11.1: Boot(nil, ..) is a kernel")
	}
	quota := api.Quota{Frames: 64, Envs: 15, Extents: 32}
	for _, serial := range []int{1, 2, 77, 1<<61 - 1, 1 << 61} {
		d := disk.New()
		k := gate.Boot(d, serial)
		if k == nil {
			t.Fatalf("P11.1: Boot(d, %d) is no kernel", serial)
		}
		root := api.Env{Serial: serial, Parent: -1, Quota: quota, Left: quota}
		s := k.State()
		if k.Serial() != serial+1 || s.Serial != serial+1 || !slices.Equal(s.Envs, []api.EnvState{{Num: 0, Env: root}}) {
			t.Errorf("P11.1: Boot(d, %d): %d, %+v", serial, k.Serial(), s)
		}
		if len(s.Caps)+len(s.Maps)+len(s.Frames)+len(s.Extents) != 0 {
			t.Errorf("P11.1: Boot(d, %d): %+v", serial, s)
		}
		if d.Acts() != 0 || len(d.Pending()) != 0 {
			t.Error("P11.1: Boot is an act of the disk")
		}
		script(t, "P11.1", k, "0 natleft = 64 15 32 48")
	}
}

func TestBootOnADiskThatIsDown(t *testing.T) {
	d := disk.New()
	d.Arm(0)
	d.Flush()
	k := gate.Boot(d, 5)
	if k == nil || k.Serial() != 6 {
		t.Fatal("P11.1: a disk that is down is a disk")
	}
	script(t, "P11.1", k, `
		0 claim 0 = 0 0
		0 natread 0 0 ! Down
		0 flush ! Down`)
	d.Crash(nil)
	script(t, "P11.1", k, `
		0 natwrite 0 7 data=3x128 =
		0 flush =`)
	if b, _ := d.Raw(7); !slices.Equal(b, bytesOf(128, 3)) {
		t.Error("P11.1: the kernel works through another disk")
	}
}

func TestNames(t *testing.T) {
	for i, name := range strings.Fields(guests) {
		if gate.Name(i) != name {
			t.Errorf("P11.6: Name(%d) = %q, want %q", i, gate.Name(i), name)
		}
	}
	for i, name := range strings.Fields(natives) {
		if gate.Name(32+i) != name {
			t.Errorf("P11.6: Name(%d) = %q, want %q", 32+i, gate.Name(32+i), name)
		}
	}
	for _, n := range append(slices.Clone(far), -1, 25, 26, 27, 28, 29, 30, 31, 51, 52) {
		if (n < 32 || n > 50) && gate.Name(n) != "" {
			t.Errorf("P11.6: Name(%d) = %q, want none", n, gate.Name(n))
		}
	}
}

func TestExamplesOfFramesAndPages(t *testing.T) {
	k := boot(t)
	if k.Serial() != 2 {
		t.Errorf("P11.2: Serial() = %d", k.Serial())
	}
	script(t, "P11.10", k, `
		0 alloc = 0
		0 alloc = 1`)
	if k.Serial() != 4 {
		t.Errorf("P11.2: Serial() = %d", k.Serial())
	}
	script(t, "P11.10", k, `
		0 info 1 = 1 15
		0 left = 62 15 32
		0 map 0 1 1 =
		0 map 0 9 1 ! NoCap
		0 map 16 0 0 ! Page
		0 map 0 0 2 ! Arg`)
	store(t, "P11.3", k, 0, 31, 7, api.OK)
	load(t, "P11.3", k, 0, 31, 7, api.OK)
	load(t, "P11.3", k, 0, 32, 0, api.ErrUnmapped)
	load(t, "P11.3", k, 0, 512, 0, api.ErrPage)
	script(t, "P11.10", k, `
		0 derive 1 5 = 2
		0 map 1 2 1 ! Rights
		0 map 1 2 0 =`)
	load(t, "P11.3", k, 0, 63, 7, api.OK)
	store(t, "P11.3", k, 0, 63, 8, api.ErrReadOnly)
	script(t, "P11.10", k, `
		0 protect 1 1 ! Rights
		0 drop 1 =`)
	load(t, "P11.10", k, 0, 31, 0, api.ErrUnmapped)
	load(t, "P11.10", k, 0, 63, 7, api.OK)
	script(t, "P11.10", k, "0 drop 2 =")
	if f := k.State().Frames; len(f) != 1 || f[0].Num != 0 {
		t.Errorf("P11.10: frames %+v", f)
	}
	script(t, "P11.10", k, "0 left = 63 15 32")
}

func TestExamplesOfEnvironments(t *testing.T) {
	k := boot(t)
	script(t, "P11.10", k, `
		0 alloc = 0
		0 alloc = 1
		0 drop 1 =
		0 spawn 10 2 4 = 1
		0 left = 53 12 28
		0 spawn 54 0 0 ! NoSpace
		0 grant 0 1 3 =
		1 info 0 = 1 3
		1 left = 9 2 4
		1 derive 0 1 ! Rights
		0 grant 0 1 16 ! Arg
		0 grant 5 1 1 ! NoCap
		0 grant 0 0 1 ! Kind`)
	if x := look(t, k, 1); x.Serial != 4 || x.Parent != 0 || x.Quota != (api.Quota{Frames: 10, Envs: 2, Extents: 4}) {
		t.Errorf("P11.10: spawn: %+v", x)
	}
	script(t, "P11.10", k, "0 mapin 1 3 0 1 =")
	store(t, "P11.10", k, 1, 96, 5, api.OK)
	if got := ask(t, k, "0 page 1 0 0"); got.V != [4]int{1, 0, 2} || !slices.Equal(got.Data, append([]byte{5}, bytesOf(127, 0)...)) {
		t.Errorf("P11.11: page: %+v", got)
	}
	script(t, "P11.11", k, `
		0 clean 1 0 0 = 5 1
		0 clean 1 0 0 = 5 0`)
	rows(t, "P11.11", k, "0 caps 1 0", [8]int{0, 1, 3, 2, -1, -1, -1, 0})
	rows(t, "P11.11", k, "0 caps -1 1", [8]int{0, 1, 3, 2, -1, 0, 0, 0})

	script(t, "P11.10", k, "0 start 1 64 =")
	if x := look(t, k, 1); x.State != api.Ready || x.Regs.PC != 64 {
		t.Errorf("P11.10: start: %+v", x)
	}
	script(t, "P11.10", k, `
		0 start 1 0 ! State
		1 wait = 0
		0 status 1 = 2
		0 notify 1 6 =`)
	if x := look(t, k, 1); x.State != api.Ready || x.Regs.R[0] != 0 || x.Regs.R[1] != 6 || x.Bits != 0 {
		t.Errorf("P11.10: notify: %+v", x)
	}
	script(t, "P11.10", k, `
		1 wait = 0
		1 exit 3 ! State`)

	script(t, "P11.11", k, `
		0 new 1 0 2 0 0 = 1
		0 new 1 0 1 1 0 ! NoSpace
		0 new 1 1 0 0 0 ! NoSpace
		0 new 1 2 0 0 0 ! Arg
		0 count 1 = 2
		0 self 1 1 0 -1 3 = 1
		1 kill 1 ! Rights
		1 kill 0 ! Kind
		0 claim 3 = 2 3
		0 claim 3 ! Claimed
		0 claim 32 ! Extent
		0 claim -1 = 3 0
		0 natwrite 2 0 data=9x128 =`)
	if got := ask(t, k, "0 natread 2 0"); !slices.Equal(got.Data, bytesOf(128, 9)) {
		t.Errorf("P11.11: natread: % x", got.Data)
	}
	script(t, "P11.11", k, `
		0 natread 2 32 ! Sector
		0 natwrite 2 0 data=9x127 ! Size`)

	script(t, "P11.13", k, `
		0 kill 1 =
		0 info 1 ! NoCap
		0 left = 63 15 30
		0 kill -1 ! NoCap
		1 yield ! Env
		0 25 ! Call`)
	if f := k.State().Frames; len(f) != 1 || f[0].Frame.Holds != 1 {
		t.Errorf("P11.13: frames %+v", f)
	}
	if x, code := k.Env(1); code != api.ErrEnv || x != (api.Env{}) {
		t.Errorf("P11.13: Env(1) = %+v, %d", x, code)
	}
	if got := k.Guest(0, api.Request{Call: 32}); got.Code != api.ErrCall {
		t.Errorf("P11.7: Guest(0, count) = %d", got.Code)
	}
}

func TestExampleOfRevoke(t *testing.T) {
	k := boot(t)
	script(t, "P11.10", k, `
		0 alloc = 0
		0 spawn 4 0 0 = 1
		0 spawn 4 0 0 = 2
		0 grant 0 1 7 =
		0 grant 0 2 3 =
		0 derive 0 15 = 3
		0 revoke 0 =
		0 info 0 = 1 15
		0 info 3 ! NoCap
		1 info 0 ! NoCap
		2 info 0 ! NoCap
		1 left = 4 0 0
		2 left = 4 0 0
		0 left = 55 13 32`)
}
