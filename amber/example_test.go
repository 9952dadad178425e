package amber_test

import (
	"strings"
	"testing"

	"amber/amber"
	"amber/api"
)

// The examples of chapter 26, and those of the whole in DOC.md.

func TestExample1(t *testing.T) {
	for _, c := range []struct {
		script string
		line   int
		code   api.Errno
	}{
		{"", 0, api.OK}, {"\n\n", 0, api.OK}, {"disk\nfoo", 2, api.ErrScript},
		{"arm", 1, api.ErrScript}, {"arm 1 2", 1, api.ErrScript}, {"arm x", 1, api.ErrScript}, {"arm 12345678901", 1, api.ErrScript},
		{"arm -5 # five", 0, api.OK}, {"arm 0000000007", 0, api.OK},
	} {
		if line, code := amber.Check(c.script); line != c.line || code != c.code {
			t.Errorf("P26.1: Check(%q): %d, %d, want %d, %d", c.script, line, code, c.line, c.code)
		}
	}
}

func TestExamples2To9(t *testing.T) {
	for script, want := range map[string]string{
		"disk": "ok 0 0\n", "arm -1\narm 0\ndisk": "no 1\nok\nok 0 0\n", "\n # nothing \n": "",
		"call 0 50\ncall 0 2\ncall 0 50\ncall 0 15 0":                                          "ok 64 15 32 48\nok 0 0 0 0\nok 63 15 32 47\nok 1 15 0 0\n",
		"call 5 0\ncall 0 99\ncall 0 7 3":                                                      "no 90\nno 110\nno 80\n",
		"prog a li r1, 7|sys 14|sys 1\ncall 0 9 2 0 0\nload 1 0 a\ncall 0 10 0 0\nrun 0 0 0:9": "ok 3\nok 0 0 0 0\nok 0\nok 0 0 0 0\nok 2\nsys 0 2 14 7 0 0 0 0 0 0 0 0\nsys 0 3 1 0 0 0 0 0 0 0 0 0\n",
		"prog a foo": "no 71 1\n", "load 0 0 a": "no 30\n", "run 9 0": "no 90\n", "run 0 0 0:1": "no 80\n", "run 0 -1 0:1": "ok 1\nnone 0\n", "run 0 -1": "ok 0\n",
		"close\nsave 0 full\nwake\nfold\nwhere":            "no 91\nno 91\nno 91\nno 91\nno 91\n",
		"open 0 31\nfold\nwake\nwhere\nopen 0 30\nclose":   "ok 0\nno 4\nno 4\nok 0\nno 91\nok\n",
		"call 0 46 -1\ncrash -\nstate":                     "ok 0 0 0 0\nok 0\nok 4\nenv 0 3 -1 0 0 0 0 0 0 0 0 0 0 0 0 0 64 15 32\n",
		"tick\ntake\npass 0\nland\nswap\nswap\naudit":      "no 91\nok\nno 1\nno 91\nok 1\nok 0\nok 0\n",
		"lose 0\ncopy 0\nspoil 0 0 0\nforget\nreplay 0 -1": "no 1\nno 1\nno 1\nok\nok 0 0\n",
	} {
		text, code := amber.Play(script)
		if text != want || code != api.OK {
			t.Errorf("P26.2: Play(%q): %q, %d, want %q", script, text, code, want)
		}
	}
	for _, script := range []string{"foo", "disk\nfoo"} {
		if text, code := amber.Play(script); text != "" || code != api.ErrScript {
			t.Errorf("P26.2: Play(%q): %q, %d", script, text, code)
		}
	}
}

func TestExample10(t *testing.T) {
	l := newTelling(t, "P2")
	l.tells(`
		prog count li r4, 0|loop: addi r4, 1|mov r1, r4|sys 14|sys 0|jmp loop -> ok 6
		call 0 9 8 2 1 -> ok 0 0 0 0
		load 1 0 count -> ok 0
		open 0 31 -> ok 0
		save 0 full -> ok 1 1 1 284 full
		save 0 next -> ok 2 1 0 156 next
		wake -> ok 4
	`)
	if a, b := l.do("tree 0 0"), l.do("tree 0 4"); a != b || !strings.HasPrefix(a, "ok\nenv 0 ") {
		t.Errorf("P2: the original tells %q, the woken tree %q", a, b)
	}
}

// saved: the first five lines of the whole's fifth example.
const saved = `
	prog a li r1, 7|sys 14|sys 1 -> ok 3
	call 0 9 2 0 0 -> ok 0 0 0 0
	load 1 0 a -> ok 0
	open 0 31 -> ok 0
	save 0 full -> ok 1 1 1 284 full
`

// asleep: the same without the last.
var asleep = strings.ReplaceAll(saved, "save 0 full -> ok 1 1 1 284 full", "")

// page: the bytes of the program's page.
var page = "0700 1002 0e00 001a 0100 001a" + strings.Repeat("00", 116)

func TestQuotas(t *testing.T) {
	tells(t, "P26.1", `
		call 0 9 8 2 1 -> ok 0 0 0 0
		call 0 50 -> ok 56 12 31 47
		call 0 9 57 0 0 -> no 2
		call 1 20 -> ok 8 2 1 0
		call 0 13 0 -> ok 0 0 0 0
		call 0 50 -> ok 64 15 32 48
	`)
}

func TestGrantAndRevoke(t *testing.T) {
	tells(t, "P26.1", `
		call 0 9 4 0 0 -> ok 0 0 0 0
		call 0 2 -> ok 1 0 0 0
		call 0 6 1 0 3 -> ok 0 0 0 0
		call 1 3 2 0 1 -> ok 0 0 0 0
		call 1 5 0 1 -> no 81
		call 0 8 1 -> ok 0 0 0 0
		call 1 15 0 -> no 80
		call 1 4 2 -> no 62
		audit -> ok 0
	`)
}

func TestGuestRuns(t *testing.T) {
	tells(t, "P26.1", `
		prog a li r1, 7|sys 14|sys 1 -> ok 3
		call 0 9 2 0 0 -> ok 0 0 0 0
		load 1 0 a -> ok 0
		call 0 10 0 0 -> ok 0 0 0 0
		run 0 0 0:9 -> ok 2/sys 0 2 14 7 0 0 0 0 0 0 0 0/sys 0 3 1 0 0 0 0 0 0 0 0 0
	`)
}

func TestGuestFaults(t *testing.T) {
	tells(t, "P26.1", `
		prog a ld r1, r0, 511 -> ok 1
		call 0 9 2 0 0 -> ok 0 0 0 0
		load 1 0 a -> ok 0
		call 0 10 0 0 -> ok 0 0 0 0
		run 0 0 0:5 -> ok 1/fault 0 1 62
		call 0 21 0 -> ok 4 62 0 0
		run 0 0 0:5 -> ok 1/none 0
	`)
}

func TestSavedAndWoken(t *testing.T) {
	text := "env 0 -1 0 0 0 1 0 0 0 0 0 0 0 0 0 2 0 0/cap 0 0 1 15 in 0 -1 -1/map 0 0 0 1/page 0 " + strings.ReplaceAll(page, " ", "")
	tells(t, "P2", saved+`
		wake -> ok 3
		tree 0 3 -> ok/`+text+`
		tree 0 0 -> ok/`+text+`
		fold -> ok 1/`+text+`
		call 0 10 3 0 -> ok 0 0 0 0
		run 0 3 0:9 -> ok 1/none 0
		call 0 38 3 0 0 -> ok 1 0 0 0
		run 0 3 0:9 -> ok 2/sys 0 2 14 7 0 0 0 0 0 0 0 0/sys 0 3 1 0 0 0 0 0 0 0 0 0
		call 0 21 0 -> ok 0 0 0 0
		call 0 21 3 -> ok 3 0 0 0
	`)
}

func TestChain(t *testing.T) {
	tells(t, "P6", saved+`
		save 0 next -> ok 2 1 0 156 next
		call 1 41 0 :`+strings.Repeat("00", 128)+` -> ok 0 0 0 0
		save 0 next -> ok 3 1 1 284 next
		where -> ok 3/0/1/2
		save 0 next -> ok 4 1 0 156 next
		save 0 next -> ok 5 1 0 156 next
		save 0 next -> ok 6 1 1 284 full
		where -> ok 1/5
		close -> ok
		open 0 31 -> ok 6
	`)
}

func TestCrashes(t *testing.T) {
	tells(t, "P4", asleep+`
		arm 3 -> ok
		save 0 full -> no 42
		disk -> ok 3 1 0 1 2
		crash 111 -> ok 3
		open 0 31 -> ok 0
		fold -> no 4
	`)
	tells(t, "P4", asleep+`
		arm 5 -> ok
		save 0 full -> no 42
		disk -> ok 5 1 993
		crash 1 -> ok 1
		open 0 31 -> ok 1
		fold -> ok 1/env 0 -1 0 0 0 1 0 0 0 0 0 0 0 0 0 2 0 0/cap 0 0 1 15 in 0 -1 -1/map 0 0 0 1/page 0 ..
	`)
	tells(t, "P4", asleep+`
		arm 5 -> ok
		save 0 full -> no 42
		crash 0 -> ok 0
		open 0 31 -> ok 0
		wake -> no 4
	`)
	tells(t, "P4", asleep+`
		arm 6 -> ok
		save 0 full -> ok 1 1 1 284 full
		crash - -> ok 0
		open 0 31 -> ok 1
		wake -> ok 2
	`)
}

func TestAnOut(t *testing.T) {
	tells(t, "P2", `
		call 0 9 4 0 0 -> ok 0 0 0 0
		call 0 2 -> ok 1 0 0 0
		call 0 42 1 0 0 -1 7 -> ok 0 0 0 0
		open 0 31 -> ok 0
		save 0 full -> ok 1 0 0 ..
		wake -> ok 4
		tree 0 4 -> ok/env 0 -1 0 0 0 1 0 0 0 0 0 0 0 0 0 4 0 0/cap 0 0 1 7 out 0 -1 -1/out 0 1 3
		send -> no 3
		call 0 7 1 -> ok 0 0 0 0
		wake -> no 3
	`)
}

func TestAnEnemy(t *testing.T) {
	tells(t, "P5", saved+`
		edit 0 0 :ff -> ok
		fold -> no 5
		wake -> no 5
		save 0 next -> ok 2 1 1 284 full
		edit 992 4 :09 -> ok
		close -> ok
		open 0 31 -> ok 1
		fold -> no 5
	`)
}

func TestAnotherMachine(t *testing.T) {
	l := tells(t, "P10", saved+`
		send -> ok 2
		swap -> ok 1
		take -> ok
		open 0 31 -> ok 0
		tick -> ok 2
		pass 0 -> ok 1 2
		tick -> ok 2
		pass 0 -> ok 2 2
		pass 0 -> ok 1
		pass 2 -> ok 0
		tick -> ok 0
		land -> ok 1
		wake -> ok 2
	`)
	text := "ok\nenv 0 -1 0 0 0 1 0 0 0 0 0 0 0 0 0 2 0 0\ncap 0 0 1 15 in 0 -1 -1\nmap 0 0 0 1\npage 0 " + strings.ReplaceAll(page, " ", "") + "\n"
	if got := l.do("tree 0 2"); got != text {
		t.Errorf("P10: the tree on the other machine tells %q, want %q", got, text)
	}
	l.tells("swap -> ok 0")
	if got := l.do("tree 0 0"); got != text {
		t.Errorf("P10: the tree that was sent tells %q, want %q", got, text)
	}
}

func TestALog(t *testing.T) {
	tells(t, "P9", saved+`
		call 0 10 0 0 -> ok 0 0 0 0
		save 0 full -> ok 2 1 1 284 full
		record 0 0 0:2 -> ok 2/sys 0 2 14 7 0 0 0 0 0 0 0 0/end 0 2
		record 0 0 0:2 -> ok 1/sys 0 1 1 0 0 0 0 0 0 0 0 0
		crash - -> ok 0
		open 0 31 -> ok 2
		wake -> ok 2
		call 0 38 2 0 0 -> ok 1 0 0 0
		replay 0 2 -> ok 2 3/sys 0 2 14 7 0 0 0 0 0 0 0 0/end 0 2/sys 0 1 1 0 0 0 0 0 0 0 0 0
		replay 0 2 -> no 211 0
	`)
}
