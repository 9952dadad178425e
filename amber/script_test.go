package amber_test

import (
	"bytes"
	"fmt"
	"strconv"
	"strings"
	"testing"

	"amber/amber"
	"amber/api"
)

// Scripts by dice: lines as somebody would write them who knows what they are for, and some that are wrong.

// settled: a village to begin with: two environments below environment 0, the second below the first, both with a program, the first with a word to write to.
const settled = `prog a li r4, 0|loop: addi r4, 1|mov r1, r4|sys 14|st r4, r0, 40|sys 24|sys 0|jmp loop
prog b li r1, 3|sys 12|sys 2|li r1, 1|li r2, 0|li r3, 0|sys 9|mov r4, r1|sys 20|jmp -9
speak c var n; n = ask; while n < 3 { emit n; n = n + 1; yield; } stop n;
prog z .zero 128
call 0 9 20 4 2
load 1 0 a
load 1 1 a
call 1 9 6 1 0
load 2 0 b
call 0 10 0 0
call 1 10 2 0`

// script makes so many lines behind those of the village.
func (d *dice) script(n int) []string {
	lines := strings.Split(settled, "\n")
	if d.one(4) {
		lines = lines[:d.below(len(lines))]
	}
	if !d.one(4) {
		lines = append(lines, fmt.Sprint("open 0 ", d.of(31, 31, 5)))
	}
	calm := !d.one(3)
	for len(lines) < n {
		some := d.lines()
		if calm && (strings.Contains(some, "crash") || strings.HasPrefix(some, "arm") || strings.HasPrefix(some, "close") || some == "swap") {
			continue
		}
		lines = append(lines, strings.Split(some, "\n")...)
	}
	return lines
}

func (d *dice) env() int { return d.of(0, 0, 0, 0, 0, 1, 1, 2, 3, d.of(4, -1, 16)) }

func (d *dice) slot() int { return d.of(0, 0, 0, 0, 1, 2, 3, 4, d.of(5, 6, 7, 8, -1, 47, 48)) }

// lines tells one line, or some that go together.
func (d *dice) lines() string {
	switch d.below(12) {
	case 0, 1:
		return d.callLine()
	case 2, 3:
		return d.storeLine()
	case 4, 5:
		return d.runsLine()
	case 6:
		return d.diskLine()
	case 7, 8:
		return d.ferryLine()
	case 9:
		return d.planLine()
	case 10:
		return d.tripLine()
	}
	return d.programLine()
}

// some makes a line of a form: N a small number, E an environment, S a slot, P picks and answers, A answers.
func (d *dice) some(form string) string {
	var out []string
	for f := range strings.SplitSeq(form, " ") {
		switch f {
		case "N":
			f = strconv.Itoa(d.of(0, 0, 0, 1, 1, 2, 3, 4, 7, 15, d.of(-1, 31, 47, 64, 4294967295, 4294967296, 9999999999)))
		case "E":
			f = strconv.Itoa(d.env())
		case "S":
			f = strconv.Itoa(d.slot())
		case "P":
			f = d.picksAndAnswers()
		case "A":
			f = d.text("", "", "?", "? 5", "? 1 0 4294967295")
		}
		out = append(out, f)
	}
	return strings.Join(out, " ")
}

func (d *dice) picksAndAnswers() string {
	var l []string
	for range d.below(4) {
		l = append(l, fmt.Sprint(d.of(0, 0, 0, 1, 1, 2, -1, 9), ":", d.of(1, 2, 5, 9, 40, 0, -1, d.of(4096, 4097, 4000))))
	}
	return strings.Join(l, " ") + d.some(" A")
}

func (d *dice) callLine() string {
	bytes := func(n int) string { return ":" + strings.Repeat(d.text("00", "01", "ff", "a5"), n) }
	return d.some(d.text(
		"call E 2", "call E 3 N S 1", "call E 4 N", "call E 5 S N", "call E 6 S S 15", "call E 6 S S 3", "call E 7 S", "call E 8 S", "call E 9 N N N", "call 0 9 6 1 0", "call E 10 S 0", "call E 11 S 6", "call E 12", "call E 13 S",
		"call E 14 N", "call E 15 S", "call E 19 S N S 1", "call E 20", "call E 21 S", "call E 22 S N N", "call E 23 S N", "call E 24", "call E 1 N", "call E 99", "call E N N N N N N N",
		"call E 32 S", "call E 33 S N", "call E 34 S N", "call E 35 S N", "call E 36 S N S", "call E 37 S N S", "call E 38 S N 0", "call E 38 S N 1", "call E 39 S N N N N", "call E 42 S S N -1 N", "call E 43 S N N N -1 N", "call E 44 S N N -1 15", "call E 45 S N N S 1",
		"call E 46 -1", "call E 46 N", "call E 49", "call E 50", "call E 47 S N",
		"call E 40 S N 1 0 0 "+bytes(36), "call E 41 S "+bytes(128), "call E 48 S N "+bytes(128), "call E 41 S "+bytes(d.below(128)), "call E 0 "+bytes(2),
		"state", "audit", "state", "swap", "tree E S", "tree 0 0", "tree E N",
	))
}

func (d *dice) storeLine() string {
	return d.some(d.text(
		"open E 31", "open 0 31", "open 0 N", "open 0 5", "close", "save 0 next", "save 0 next", "save 0 full", "save S full", "save S next", "wake", "wake", "fold", "fold", "where", "where",
		"save 0 full\nwake\nfold\ntree 0 4", "save 0 next\nsave 0 next\nwhere", "close\nopen 0 31\nwhere", "tree 0 0",
	))
}

func (d *dice) runsLine() string {
	return d.some(d.text(
		"run E S P", "run 0 0 P", "run 0 -1 P", "run 0 0 0:9", "record 0 0 P", "record 0 -1 P", "record E S P", "replay 0 0", "replay E S", "replay 0 -1", "forget",
		"save 0 full\nforget\nrecord 0 0 0:9 ? 5\nrecord 0 0 0:9 1:3\ncall 0 13 0\nwake\ncall 0 38 0 0 0\nreplay 0 0", "run E -1 P", "call 0 10 S 0\nrun 0 S P",
	))
}

func (d *dice) diskLine() string {
	return d.some(d.text(
		"arm N", "arm -1", "arm 3", "arm 5\nsave 0 full\ndisk\ncrash 01", "disk", "disk", "raw N", "raw 992", "raw 0", "edit N N :00ff", "edit 0 9 :01", "edit 992 4 :02", "edit 0 127 :0000",
		"crash -", "crash 1", "crash 0101", "crash "+strings.Repeat("1", 90), "crash -\nopen 0 31\nwake\nfold",
	))
}

func (d *dice) ferryLine() string {
	return d.some(d.text(
		"send", "take", "tick", "pass N", "pass 0", "pass 0", "pass 1", "lose N", "copy N", "spoil N N N", "spoil 0 5 3", "land", "land", "tick\npass 0\npass 1\npass 0", "save 0 full\nsend", "send\ntake\ntick\npass 0\npass 0\npass 0\npass 0", "take\n"+strings.Repeat("tick\npass 0\npass 0\npass 0\n", 6)+"land\nfold",
		"swap\nopen 0 31\nland\nwake\ntree 0 2", "lose 0\nlose 0\nlose 0", "save 0 next\nsend\nswap\ntake\nopen 0 31\n"+strings.Repeat("tick\n"+strings.Repeat("pass 0\n", 9), 6)+"land\nwake\ntree 0 10\nswap",
	))
}

func (d *dice) planLine() string {
	return d.some(d.text(
		"plan N", "plan 1", "plan 2", "plan 3", "weigh 0 -1 N N", "weigh E S N N", "weigh 0 -1 1 3", "drive 0 -1 7 5 A", "drive 0 0 N N A", "drive E S N N A", "drive 0 -1 40 100 ? 1 2 3", "drive 0 -1 41 100",
		"plan 2\nweigh 0 -1 1 3\ndrive 0 -1 9 4", "plan 3\ndrive 0 -1 5 9 ? 1",
	))
}

func (d *dice) tripLine() string {
	return d.some(d.text(
		"trip S", "trip 0", "trip 0\ngo 0:9\ngo 1:9 0:4 ? 6", "go P", "go 0:7", "back N", "back 0", "back 1", "forth N", "forth 0", "forth 1", "find N N N N N", "find 4 0 0 0 1", "find 2 0 4 0 N", "find 3 0 0 40 1", "find 1 0 0 0 N",
		"trip 0\ngo 0:20\ngo 0:20 1:5\nback 1\nforth 1\nback 2\nfind 2 0 4 0 1",
	))
}

func (d *dice) programLine() string {
	return d.some(d.text(
		"prog a li r1, 7|sys 14|sys 1", "prog b foo", "prog c nop|nop|jmp x", "prog d", "prog e  li r1, 1 ; x | sys 14 ", "prog f .zero 40|sys 0", "speak a emit 1; yield; emit ask;", "speak b emit", "speak c x = 1;", "speak d", "speak e var a[96]; a[3] = 1 || 2; emit a[3];", "speak f  emit 1 | 2 ;  // x",
		"load E N a", "load E N c", "load 1 4 f", "load 0 0 z", "load E N z", "load E N q", "load 0 N d", "mean N - emit 1; yield;", "mean 9 - emit", "mean 50 1,2 emit ask; emit ask; emit ask;", "mean 3 - while 1 { }", "mean 9 5 stop 1 / (ask - 5);", "mean N -", "", " # nothing", "\t",
	))
}

// pair: a world and a model, told the same lines.
type pair struct {
	w    *amber.World
	m    *model
	past []string
}

func newPair() *pair { return &pair{w: amber.New(), m: newModel()} }

// do does a line in both; what it tells.
func (p *pair) do(t *testing.T, line string) string {
	t.Helper()
	p.past = append(p.past, line)
	got, code := p.w.Do(line)
	if want := p.m.do(line); got != want || code != api.OK {
		t.Fatalf("P26.1: behind %q:\nDo(%q) tells %q, %d,\nwant %q", p.past[:len(p.past)-1], line, got, code, want)
	}
	return got
}

// settle looks at both machines at the end.
func (p *pair) settle(t *testing.T) {
	t.Helper()
	for range 2 {
		p.do(t, "state")
		p.do(t, "disk")
		if !bytes.Equal(p.w.Medium(), p.m.rigs[p.m.at].d.Medium()) {
			t.Fatalf("P26.1: behind %q: Medium is another", p.past)
		}
		if told := p.do(t, "audit"); told != "ok 0\n" {
			t.Fatalf("P8: behind %q: the audit tells %q", p.past, told)
		}
		p.do(t, "swap")
	}
}

const (
	scripts    = 300
	scriptLong = 90
)

// TestScripts holds worlds against models, line by line.
func TestScripts(t *testing.T) {
	counts := map[string]int{}
	for seed := range scripts {
		d := dice(seed)
		p := newPair()
		for _, line := range d.script(scriptLong) {
			told := p.do(t, line)
			if name := strings.Fields(line + " -")[0]; told != "" {
				counts[name+" "+strings.Fields(told)[0]]++
				if f := strings.Fields(told); f[0] == "no" {
					counts[name+" no "+f[1]]++
				}
			}
		}
		p.settle(t)
	}
	for _, c := range reached {
		if counts[c] == 0 {
			t.Errorf("P26.1: no script comes to %q", c)
		}
	}
	if testing.Verbose() {
		for c, n := range counts {
			t.Log(c, n)
		}
	}
}

// reached: what the scripts must have come to.
var reached = strings.Split("call ok,call no,prog ok,prog no 71,load ok,load no 30,run ok,open ok,open no 91,close ok,save ok,save no,wake ok,fold ok,where ok,tree ok,tree no,arm ok,arm no 1,crash ok,edit ok,raw ok,disk ok,state ok,audit ok,swap ok,record ok,replay ok,replay no 211,forget ok,send ok,take ok,tick ok,pass ok,pass no 1,lose ok,copy ok,spoil ok,spoil no 1,land ok,land no 91,speak ok,speak no 230,mean ok,mean no 230,plan ok,plan no 1,weigh ok,weigh no 1,weigh no 91,drive ok,drive no 91,drive no 1,trip ok,trip no 91,go ok,go no 91,back ok,back no 1,forth ok,forth no 1,find ok,find no 1", ",")
