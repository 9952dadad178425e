package amber_test

import (
	"fmt"
	"strings"
	"testing"
)

// Each line: what it is refused with, in which order, and what stays as it was.

func TestCall(t *testing.T) {
	zeros := strings.Repeat("00", 124)
	tells(t, "P26.1", `
		call 9 99 -> no 90
		call -1 0 -> no 90
		call 0 99 -> no 110
		call 0 2 -> ok 0 0 0 0
		call 0 41 0 :`+"01020304"+zeros+` -> ok 0 0 0 0
		call 0 41 0 :00 -> no 41
		call 0 41 0 -> no 41
		call 0 36 -1 0 0 -> ok 1 0 2 0/: 01020304`+zeros+`
		call 0 9 4 2 1 -> ok 1 0 0 0
		call 0 6 0 1 3 -> ok 0 0 0 0
		call 0 34 -1 1 -> ok 0 0 0 0/= 0 1 3 2 -1 0 0 1
		call 0 34 -1 0 -> ok 0 0 0 0/= 0 1 15 2 -1 -1 -1 1/= 1 2 15 3 1 -1 -1 0
		call 0 33 1 0 -> ok -1 47 0 0/= 0 0 0 0 4 2 1 3/= 0 0 0 0 0 0 0 0/= 0 3 2 1 0 0 0 0
		call 0 40 1 0 4 4294967295 3 :`+strings.Repeat("ff", 36)+` -> ok 0 0 0 0
		call 0 23 1 8 -> ok 4294967295 0 0 0
		call 0 20 1 2 3 4 5 6 :00 -> ok 59 12 31 0
		call 0 46 5 -> ok 2 5 0 0
		call 0 48 2 31 :`+strings.Repeat("0a", 128)+` -> ok 0 0 0 0
		call 0 47 2 31 -> ok 0 0 0 0/: `+strings.Repeat("0a", 128)+`
		call 0 44 1 0 0 -1 15 -> ok 1 0 0 0
		call 0 24 -> no 91
	`)
}

func TestProgrammed(t *testing.T) {
	tells(t, "P26.1", `
		prog a -> ok 0
		prog a nop|nop|sys 0 -> ok 3
		prog a nop|foo -> no 71 2
		prog a nop|jmp x|foo -> no 72 2
		prog a .zero 512|nop -> no 2 2
		speak a emit 1 -> no 230 1
		speak a x = 1; -> no 231 1
		speak a var a[97]; -> no 232 1
		speak a `+strings.Repeat("emit 1;", 127)+` -> no 232 0
		call 0 9 9 0 0 -> ok 0 0 0 0
		load 1 3 a -> ok 0
		call 1 36 -1 0 0 -> ok 1 0 3 0/: 00000001000000010000001a0000..
		speak a emit 6 | 1; // # emit 2; -> ok 13
		prog a nop # | foo -> ok 1
	`)
	tells(t, "P26.1", `
		speak a emit 6 | 1; // -> ok 13
		mean 9 - emit 6 | 1; // -> ok 3 0 0 1 2/out 14 7/out 1 0
		prog b ; nop | nop -> ok 1
		prog b 	nop 	|	 -> ok 1
		call 0 9 9 0 0 -> ok 0 0 0 0
		load 1 0 b -> ok 0
		prog b nop|nop -> ok 2
		load 1 1 b -> ok 1
		prog a foo -> no 71 1
		load 1 2 a -> ok 2
		call 1 35 -1 0 -> ok 0 0 0 0/= 0 0 1 1 0 0 0 0/= 1 1 1 1 0 0 0 0/= 2 2 1 1 0 0 0 0
	`)
}

func TestMean(t *testing.T) {
	tells(t, "P26.1", `
		mean 0 - -> ok 3 0 0 0 1/out 1 0
		mean 65536 - emit 7; -> ok 3 0 0 1 2/out 14 7/out 1 0
		mean 65537 - emit 7 -> no 1 0
		mean -1 - emit 7 -> no 1 0
		mean 9 - emit 7 -> no 230 1
		mean 9 - break; -> no 231 1
		mean 9 - var a[96]; var b; -> no 232 1
		mean 5 4294967295,-0,007 emit ask; emit ask; emit ask; -> ok 1 0 2 5 4/out 24 4294967295/out 14 4294967295/out 24 0/out 14 0
		mean 9 1 stop 1 / (ask - 1); -> ok 4 73 1 2 1/out 24 1
		mean 9 1,2 yield; stop ask + 4; -> ok 3 5 1 3 3/out 0 0/out 24 1/out 1 5
	`)
}

// TestLoad: no program is told ahead of no environment; what was done till a refused call stays.
func TestLoad(t *testing.T) {
	tells(t, "P26.1", `
		load 9 99 a -> no 30
		prog a nop -> ok 1
		prog none -> ok 0
		prog two .zero 33 -> ok 33
		prog three .zero 64|nop -> ok 65
		load 9 99 a -> no 90
		load -1 0 none -> ok
		load 9 99 none -> ok
		call 0 9 4 1 1 -> ok 0 0 0 0
		load 1 15 two -> no 60
		call 1 35 -1 0 -> ok 0 0 0 0/= 15 0 1 1 0 0 0 0
		call 1 20 -> ok 2 1 1 0
		load 1 4 three -> no 2
		call 1 35 -1 0 -> ok 0 0 0 0/= 4 2 1 1 0 0 0 0/= 5 3 1 1 0 0 0 0/= 15 0 1 1 0 0 0 0
		call 1 20 -> ok 0 1 1 0
		call 0 9 9 1 1 -> ok 1 0 0 0
		load 2 5 three -> ok 0 1 2
		load 2 6 a -> no 61
		call 2 20 -> ok 5 1 1 0
		load 2 -1 a -> no 60
		load 2 9999999999 a -> no 60
		load 2 8 two -> ok 6 7
	`)
}

// TestPagesLaid: each word of a program stands where it should, and the last page is filled up.
func TestPagesLaid(t *testing.T) {
	var words, bytes []string
	for i := range 70 {
		words = append(words, fmt.Sprint(".word ", i+1))
	}
	for i := range 96 {
		b := 0
		if i < 70 {
			b = i + 1
		}
		bytes = append(bytes, fmt.Sprintf("%02x000000", b))
	}
	l := newTelling(t, "P26.1")
	l.must("prog a " + strings.Join(words, "|"))
	if got := l.must("load 0 7 a"); got != "0 1 2" {
		t.Errorf("P26.1: load tells %q", got)
	}
	for i := range 3 {
		want := fmt.Sprintf("ok 1 0 %d 0\n: %s\n", i+2, strings.Join(bytes[i*32:i*32+32], ""))
		if got := l.do(fmt.Sprint("call 0 36 -1 0 ", i)); got != want {
			t.Errorf("P26.1: page %d: %q, want %q", i, got, want)
		}
	}
	l.tells("call 0 35 -1 0 -> ok 0 0 0 0/= 7 0 1 1 0 0 0 0/= 8 1 1 1 0 0 0 0/= 9 2 1 1 0 0 0 0")
}

// roots: environment 1 in slot 0, a frame in slot 1, an extent in slot 2, a program that never ends below.
const roots = `
	prog spin addi r4, 1|jmp -2 -> ok 2
	call 0 9 8 2 1 -> ok 0 0 0 0
	call 0 2 -> ok 1 0 0 0
	call 0 46 3 -> ok 2 3 0 0
	load 1 0 spin -> ok 0
	call 0 10 0 0 -> ok 0 0 0 0
`

// TestRoot: the root of run, record, replay, weigh and drive is asked for ahead of what they are refused with otherwise.
func TestRoot(t *testing.T) {
	for _, line := range []string{"run @ 0:4097", "record @ 0:4097", "replay @", "weigh @ 99 99", "drive @ -1 0", "run @", "record @ 0:1 ? 1", "drive @ 1 1", "weigh @ 0 1"} {
		script := roots + "plan 1 -> ok\n"
		for at, code := range map[string]string{"9 0": "90", "-1 -1": "90", "16 9": "90", "9999999999 -1": "90", "0 -2": "80", "0 3": "80", "0 48": "80", "0 -9999999999": "80", "1 1": "80", "0 1": "82", "0 2": "82", "1 0": "82"} {
			script += strings.Replace(line, "@", at, 1) + " -> no " + code + "\n"
		}
		tells(t, "P26.1", script)
	}
	tells(t, "P26.1", roots+`
		run 0 0 0:3 -> ok 1/end 0 3
		run 0 -1 1:3 0:1 -> ok 2/end 1 3/none 0
		run 1 -1 0:3 1:1 -> ok 2/end 0 3/none 1
		run 0 0 0:4097 -> no 1
		run 0 0 0:4096 0:1 -> no 1
		record 0 0 0:4097 -> no 1
		replay 0 0 -> ok 0 0
		record 0 0 0:2 0:0 -> ok 2/end 0 2/none 0
		record 1 -1 -> ok 0
		replay 0 0 -> ok 2 2/end 0 2/none 0
		plan 1 -> ok
		call 0 5 0 0 -> ok 3 0 0 0
		run 0 3 0:1 -> ok 1/end 0 1
		drive 0 3 1 1 -> ok 1 1/end 0 1/chose 2
		weigh 0 3 0 1 -> ok
		call 0 44 -1 0 0 -1 0 -> ok 4 0 0 0
		run 0 4 1:1 -> ok 1/end 1 1
	`)
}

// TestLog: a log that is full, and one that parts in the middle.
func TestLog(t *testing.T) {
	l := tells(t, "P26.1", roots)
	long := "record 0 0" + strings.Repeat(" 0:0", 1020)
	for range 4 {
		l.must(long)
	}
	l.tells(`
		record 0 0 0:4097` + strings.Repeat(" 0:0", 1000) + ` -> no 2
		record 9 0` + strings.Repeat(" 0:0", 1000) + ` -> no 90
	`)
	if got := l.must("replay 0 0"); !strings.HasPrefix(got, "4 4080\nnone 0\n") {
		t.Errorf("P26.1: replay tells %.40q", got)
	}
	l.tells(`
		forget -> ok
		replay 0 0 -> ok 0 0
		record 0 0 0:2 -> ok 1/end 0 2
		record 0 0 0:2 -> ok 1/end 0 2
		swap -> ok 1
		replay 0 -1 -> no 211 0
		swap -> ok 0
		record 0 0 0:9999 -> no 1
		replay 0 0 -> ok 2 2/end 0 2/end 0 2
		call 0 38 0 0 1 -> ok 0 0 0 0
		replay 0 0 -> no 211 0
		call 0 38 0 0 0 -> ok 1 0 0 0
		prog once nop|sys 1 -> ok 2
		call 0 9 8 2 1 -> ok 3 0 0 0
		load 2 0 once -> ok 0
		call 0 10 3 0 -> ok 0 0 0 0
		forget -> ok
		record 0 0 0:1 -> ok 1/end 0 1
		record 0 0 0:1 -> ok 1/end 0 1
		replay 0 3 -> no 211 1
	`)
}

// TestStoreLines: without a store, with one; in whose name.
func TestStoreLines(t *testing.T) {
	tells(t, "P26.1", roots+`
		close -> no 91
		save 9 full -> no 91
		wake -> no 91
		fold -> no 91
		where -> no 91
		send -> no 91
		trip 9 -> no 91
		open 9 31 -> no 90
		open 0 32 -> no 100
		open 0 3 -> no 101
		fold -> no 91
		open 1 7 -> ok 0
		open 9 99 -> no 91
		save 9 next -> no 80
		save 0 next -> no 82
		wake -> no 4
		fold -> no 4
		send -> no 4
		where -> ok 0
		trip 5 -> no 80
		close -> ok
		close -> no 91
		open 0 7 -> ok 0
		save 0 next -> ok 1 1 1 284 full
		save 0 next -> ok 2 1 0 156 next
		save 0 full -> ok 3 1 1 284 full
		save 1 full -> no 82
		save 2 next -> no 82
		save 9 full -> no 80
		where -> ok 1/2
		close -> ok
		call 0 9 9 2 9 -> ok 3 0 0 0
		open 2 7 -> ok 3
		where -> ok 1/2
		wake -> no 2
		save 0 full -> no 82
		call 2 9 2 0 0 -> ok 2 0 0 0
		save 2 full -> ok 4 0 0 126 full
		wake -> ok 1
		wake -> no 2
		call 2 13 2 -> ok 0 0 0 0
		wake -> ok 2
		tree 2 2 -> ok/env 0 -1 0 0 0 1 0 0 0 0 0 0 0 0 0 2 0 0
		call 0 13 3 -> ok 0 0 0 0
		fold -> no 90
		wake -> no 90
		save 0 full -> no 90
		where -> ok 1/0
		open 0 9 -> no 91
		close -> ok
		open 0 7 -> ok 4
		call 0 7 4 -> ok 0 0 0 0
		fold -> no 80
		send -> no 80
		close -> ok
		audit -> ok 0
	`)
}

// TestWhereOfLongImages: an image that needs more than one extent.
func TestWhereOfLongImages(t *testing.T) {
	l := tells(t, "P26.1", `
		prog z .zero 512 -> ok 512
		call 0 9 40 2 1 -> ok 0 0 0 0
		load 1 0 z -> ok 0 1 2 3 4 5 6 7 8 9 10 11 12 13 14 15
		prog y .zero 480 -> ok 480
		call 1 9 20 0 0 -> ok 16 0 0 0
		load 2 0 y -> ok 0 1 2 3 4 5 6 7 8 9 10 11 12 13 14
		open 0 1 -> ok 0
		save 0 full -> ok 1 31 31 ..
		where -> ok 1/0 2
		save 0 next -> ok 2 31 0 ..
		where -> ok 2/0 2/3
		save 0 full -> ok 3 31 31 ..
		where -> ok 1/4 5
	`)
	if a, b := l.must("fold"), l.must("tree 0 0"); a != "3\n"+b {
		t.Errorf("P6: fold tells %q, the tree is %q", a, b)
	}
}

func TestTree(t *testing.T) {
	tells(t, "P26.1", roots+`
		tree 9 0 -> no 90
		tree 0 -1 -> no 80
		tree 0 9 -> no 80
		tree 0 1 -> no 82
		tree 0 2 -> no 82
		call 0 5 0 2 -> ok 3 0 0 0
		tree 0 3 -> no 81
		call 0 44 -1 0 0 -1 1 -> ok 4 0 0 0
		tree 0 4 -> ok/env 0 -1 0 0 0 1 0 0 0 0 0 0 0 0 0 64 15 32/env 1 0 1 0 0 0 0 0 0 0 0 0 0 0 0 8 2 1/cap 0 0 2 15 in 1 -1 -1/cap 0 1 1 15 in 0 -1 -1/cap 0 2 3 15 out 0 -1 -1/cap 0 3 2 2 in 1 0 0/cap 0 4 2 1 in 0 -1 -1/cap 1 0 1 15 in 1 -1 -1/map 1 0 0 1/page 0 `+strings.Repeat("00", 128)+`/page 1 01004012feff00150000..
		call 0 3 7 1 0 -> ok 0 0 0 0
	`)
}

// TestState: each kind of line, with numbers that differ from one another.
func TestState(t *testing.T) {
	l := tells(t, "P26.1", `
		call 0 9 9 3 4 -> ok 0 0 0 0
		call 0 46 6 -> ok 1 6 0 0
		call 0 2 -> ok 2 0 0 0
		call 0 2 -> ok 3 0 0 0
		call 0 7 2 -> ok 0 0 0 0
		call 0 6 3 0 5 -> ok 0 0 0 0
		call 0 3 2 3 1 -> ok 0 0 0 0
		call 1 3 11 0 0 -> ok 0 0 0 0
		call 0 40 0 0 2 77 0 :0100000002000000030000000400000005000000060000000700000008000000ffffffff -> ok 0 0 0 0
		call 0 11 0 0 -> ok 0 0 0 0
		call 0 37 -1 0 3 -> ok 6 1 0 0
		call 0 41 3 :`+strings.Repeat("0123456789abcdef", 16)+` -> ok 0 0 0 0
		call 0 38 0 0 1 -> ok 0 0 0 0
	`)
	want := `ok 7
env 0 1 -1 0 0 0 0 0 0 0 0 0 0 0 0 0 64 15 32
env 1 2 0 2 77 0 1 1 2 3 4 5 6 7 8 4294967295 9 3 4
cap 0 0 2 1 2 15 -1 -1
cap 0 1 3 6 3 15 -1 -1
cap 0 3 1 1 5 15 -1 -1
cap 1 0 1 1 5 5 0 3
map 0 2 3 1
map 1 11 0 0
frame 1 5 1 6 ` + strings.Repeat("0123456789abcdef", 16) + `
ext 6 3
`
	if got := l.do("state"); got != want {
		t.Errorf("P26.1: state tells %q, want %q", got, want)
	}
}

func TestDiskLines(t *testing.T) {
	zeros := strings.Repeat("00", 128)
	tells(t, "P26.1", `
		call 0 46 2 -> ok 0 2 0 0
		call 0 48 0 5 :`+zeros[:254]+`07 -> ok 0 0 0 0
		call 0 48 0 6 :`+zeros[:254]+`08 -> ok 0 0 0 0
		call 0 48 0 5 :`+zeros[:254]+`09 -> ok 0 0 0 0
		disk -> ok 3 0 69 70 69
		raw 69 -> ok/: `+zeros+`
		raw -1 -> no 40
		raw 1024 -> no 40
		edit 1024 999 :00 -> no 40
		edit 0 -1 :00 -> no 1
		edit 0 127 :0102 -> no 1
		edit 0 128 : -> ok
		edit 70 0 :aabb -> ok
		raw 70 -> ok/: aabb`+zeros[:252]+`
		arm -1 -> no 1
		arm 0 -> ok
		call 0 49 -> no 42
		disk -> ok 3 1 69 70 69
		arm 5 -> no 42
		arm -1 -> no 1
		call 0 47 0 5 -> no 42
		edit 0 0 :01 -> ok
		crash 101111 -> ok 2
		raw 69 -> ok/: `+zeros[:254]+`09
		raw 70 -> ok/: aabb`+zeros[:252]+`
		disk -> ok 3 0
		crash - -> ok 0
		crash 1 -> ok 0
	`)
}

// TestCrashForgets: what is of the machine's memory goes, the rest stays.
func TestCrashForgets(t *testing.T) {
	l := tells(t, "P26.1", `
		swap -> ok 1
		open 0 3 -> ok 0
		plan 1 -> ok
		call 0 2 -> ok 1 0 0 0
		swap -> ok 0
	`+saved+`
		call 0 10 0 0 -> ok 0 0 0 0
		send -> ok 2
		take -> ok
		tick -> ok 2
		pass 0 -> ok 1 2
		plan 2 -> ok
		trip 0 -> ok
		go 0:1 -> ok 1/end 0 1
		forget -> ok
		record 0 -1 0:4 1:1 -> ok 3/none 0/sys 1 1 14 7 0 0 0 0 0 0 0 0/end 1 1
	`)
	before := l.must("state")
	serial, _, _ := strings.Cut(before, "\n")
	l.tells(`
		crash 1111 -> ok 0
		state -> ok ` + fmt.Sprint(number(serial)+1) + `/env 0 ` + serial + ` -1 0 0 0 0 0 0 0 0 0 0 0 0 0 64 15 32
		close -> no 91
		drive 0 -1 1 1 -> no 91
		back 0 -> no 91
		pass 0 -> ok 2 2
		pass 0 -> ok 1
		tick -> ok 1
		open 0 31 -> ok 2
		land -> ok 3
		wake -> ok 1
		load 0 5 a -> ok 3
		replay 0 -1 -> no 211 0
		swap -> ok 1
		where -> ok 0
		close -> ok
		drive 0 -1 1 1 -> ok 0 0
		call 0 15 1 -> ok 1 15 0 0
	`)
}

// TestOneOfEach: plan, trip and store are a machine's; programs, log, both ends of the line and what is on it are the world's.
func TestOneOfEach(t *testing.T) {
	tells(t, "P26.1", saved+`
		plan 1 -> ok
		trip 0 -> ok
		take -> ok
		record 0 -1 0:1 -> ok 1/none 0
		swap -> ok 1
		state -> ok 2/env 0 1 -1 0 0 0 0 0 0 0 0 0 0 0 0 0 64 15 32
		where -> no 91
		drive 0 -1 1 1 -> no 91
		weigh 0 -1 0 1 -> no 91
		go -> no 91
		trip 0 -> no 91
		replay 0 -1 -> ok 1 1/none 0
		load 0 0 a -> ok 0
		send -> no 91
		tick -> no 91
		swap -> ok 0
		send -> ok 2
		swap -> ok 1
		tick -> ok 2
		pass 1 -> ok 1 2
		disk -> ok 0 0
		plan 3 -> ok
		open 0 31 -> ok 0
		close -> ok
		swap -> ok 0
		where -> ok 1/1
		drive 0 -1 1 1 -> ok 0 0
		go -> ok 0
	`)
}

// TestFerryLines: what is refused, and what stays in flight.
func TestFerryLines(t *testing.T) {
	tells(t, "P26.1", saved+`
		tick -> no 91
		pass 0 -> no 1
		send -> ok 2
		tick -> ok 2
		pass 0 -> no 91
		pass 1 -> no 91
		pass 2 -> no 1
		pass -1 -> no 1
		lose 2 -> no 1
		copy 2 -> no 1
		spoil 2 0 0 -> no 1
		spoil -1 0 0 -> no 1
		spoil 0 -1 0 -> no 1
		spoil 0 78 0 -> ok
		spoil 0 79 0 -> no 1
		spoil 0 0 256 -> no 1
		spoil 0 0 -1 -> no 1
		spoil 0 9999999999 255 -> no 1
		take -> ok
		spoil 0 30 255 -> ok
		copy 0 -> ok
		spoil 2 30 255 -> ok
		pass 0 -> no 220
		pass 1 -> ok 1 2
		spoil 1 3 1 -> ok
		pass 1 -> no 220
		pass 1 -> no 1
		pass 0 -> ok 2 2
		pass 0 -> ok 0
		pass 0 -> no 1
		tick -> ok 0
		send -> ok 2
		tick -> ok 2
		pass 1 -> ok 2 2
		call 1 41 0 :`+strings.Repeat("ab", 128)+` -> ok 0 0 0 0
		save 0 full -> ok 2 1 1 284 full
		tick -> ok 2
		send -> ok ..
		pass 1 -> no 221
		tick -> ok ..
		pass 3 -> no 221
		take -> ok
		pass 3 -> ok 1 ..
		pass 0 -> no 221
	`)
}

func TestLandRefused(t *testing.T) {
	tells(t, "P26.1", saved+`
		land -> no 91
		take -> ok
		land -> no 91
		send -> ok 2
		tick -> ok 2
		pass 0 -> ok 1 2
		land -> no 91
		pass 0 -> ok 2 2
		close -> ok
		land -> no 91
		open 0 31 -> ok 1
		save 0 next -> ok 2 1 0 156 next
		land -> ok 3
		where -> ok 1/2
		land -> ok 4
		where -> ok 1/0
		save 0 next -> ok 5 1 1 284 next
		save 0 next -> ok 6 1 0 156 next
		arm 2 -> ok
		land -> no 42
		where -> ok 3/0/1/2
		crash - -> ok 0
		land -> no 91
		open 0 31 -> ok 6
		call 0 9 0 0 28 -> ok 4 0 0 0
		land -> no 2
		call 0 13 4 -> ok 0 0 0 0
		land -> ok 7
		call 0 7 0 -> ok 0 0 0 0
		land -> no 80
	`)
}

func TestPlanLines(t *testing.T) {
	tells(t, "P26.1", roots+`
		drive 9 0 -1 0 -> no 91
		weigh 9 0 -1 0 -> no 91
		plan 0 -> no 1
		plan 4 -> no 1
		drive 9 0 -1 0 -> no 91
		call 0 9 8 2 1 -> ok 3 0 0 0
		load 2 0 spin -> ok 0
		call 0 10 3 0 -> ok 0 0 0 0
		plan 1 -> ok
		drive 0 -1 1 3 -> ok 1 1/end 1 3/chose 2
		plan 0 -> no 1
		drive 0 -1 1 3 -> ok 1 1/end 2 3/chose 6
		plan 1 -> ok
		drive 0 -1 1 3 -> ok 1 1/end 1 3/chose 2
		weigh 0 -1 3 1 -> no 1
		weigh 0 -1 -1 1 -> no 1
		weigh 0 0 1 1 -> no 1
		weigh 0 -1 2 0 -> no 1
		weigh 0 -1 2 9 -> no 1
		plan 3 -> ok
		weigh 0 -1 2 8 -> ok
		drive 0 -1 2 1 -> ok 2 2/end 2 1/end 2 1/chose 6 6
		weigh 0 0 0 7 -> ok
		weigh 0 3 0 1 -> ok
		drive 0 -1 2 1 -> ok 2 2/end 1 1/end 1 1/chose 2 2
		drive 0 -1 4097 1 -> no 1
		drive 0 -1 64 65 -> no 1
		drive 0 -1 1 0 -> no 1
		drive 0 -1 -1 1 -> no 1
		drive 0 -1 0 1 -> ok 0 0
		drive 0 -1 0 1 ? 4 -> ok 0 0
		prog ask sys 24|mov r4, r1|jmp -3 -> ok 3
		call 0 9 8 2 1 -> ok 4 0 0 0
		load 3 0 ask -> ok 0
		call 0 10 4 0 -> ok 0 0 0 0
		drive 0 4 3 2 ? 5 -> ok 5 3/sys 0 1 24 0 0 0 0 0 0 5 0 0/end 0 2/sys 0 2 24 5 0 0 5 0 91 0 0 0/end 0 2/end 0 2/chose 8 8 8
	`)
}

func TestTripLines(t *testing.T) {
	tells(t, "P26.1", saved+`
		go 0:4097 -> no 91
		back -1 -> no 91
		forth -1 -> no 91
		find 9 9 9 -1 -1 -> no 91
		call 0 10 0 0 -> ok 0 0 0 0
		trip 1 -> no 82
		trip 9 -> no 80
		go -> no 91
		trip 0 -> ok
		back 1 -> no 1
		forth 1 -> no 1
		back 0 -> ok 0 0 2
		go 0:1 ? 4 -> ok 1/end 0 1
		go 0:4097 -> no 1
		go 0:1 -> ok 2/sys 0 1 14 7 0 0 0 0 0 0 0 0/end 0 1
		back 2 -> ok 0 2 0
		forth 1 -> ok 1 2 2 1/end 0 1
		forth 2 -> no 1
		forth 1 -> ok 2 2 0 2/sys 0 1 14 7 0 0 0 0 0 0 0 0/end 0 1
		forth 0 -> ok 2 2 2 0
		back 3 -> no 1
		find 1 0 0 0 2 -> ok 2
		find 1 0 0 0 4 -> ok -1
		find 1 0 0 0 0 -> ok 0
		find 2 0 1 0 7 -> ok 1
		find 2 0 8 0 7 -> no 1
		find 0 0 0 0 0 -> no 1
		find 3 0 0 4294967295 0 -> ok -1
		find 3 0 0 1 436207630 -> ok 0
		find 1 0 0 4294967296 0 -> no 1
		find 1 0 0 0 4294967296 -> no 1
		find 1 0 0 -1 0 -> no 1
		find 1 0 0 0 -1 -> no 1
		find 1 -1 -9 0 0 -> ok -1
		trip 9 -> no 80
		back 2 -> ok 0 2 0
		trip 0 -> ok
		back 1 -> no 1
		go 0:1 -> ok 1/end 0 1
		call 0 38 -1 0 1 -> ok 0 0 0 0
		go -> no 91
		back 0 -> no 91
		forth 0 -> no 91
		find 1 0 0 0 0 -> no 91
		find 1 0 0 -1 0 -> no 1
		call 0 38 -1 0 0 -> ok 1 0 0 0
		close -> ok
		go -> no 1
		trip 0 -> no 91
		open 0 31 -> ok 3
		go -> no 1
		trip 0 -> ok
		back 0 -> ok 0 0 2
	`)
}

// TestFlightIsFull: 4096 packets, and no more.
func TestFlightIsFull(t *testing.T) {
	l := newTelling(t, "P26.1")
	l.tells("prog z .zero 512 -> ok 512\ncall 0 9 40 2 1 -> ok 0 0 0 0\nload 1 0 z -> ok ..\nopen 0 31 -> ok 0")
	// Pages of different bytes, so that there are many parts.
	for slot := range 16 {
		data := ""
		d := dice(slot)
		for range 128 {
			data += fmt.Sprintf("%02x", d.below(256))
		}
		l.must(fmt.Sprint("call 1 41 ", slot, " :", data))
	}
	l.tells("save 0 full -> ok 1 16 ..\nsend -> ok ..")
	for range 511 {
		l.tells("tick -> ok 8")
	}
	l.tells("copy 0 -> ok\ntick -> no 2\nlose 4000 -> ok\ntick -> ok 8\ntick -> no 2\ncopy 4095 -> no 2\ncopy 4096 -> no 1\ntake -> ok")
	// What arrives makes room for what answers it.
	l.tells("pass 0 -> ok 1 ..\npass 4095 -> ok ..\ntick -> no 2\ncopy 4094 -> ok\ncopy 0 -> no 2\npass 4095 -> ok 2 ..\ncopy 0 -> no 2")
	for range 8 {
		l.must("lose 0")
	}
	l.tells("tick -> ok 8")
}

func number(text string) int {
	n := 0
	fmt.Sscan(text, &n)
	return n
}
