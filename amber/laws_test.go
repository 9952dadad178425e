package amber_test

import (
	"fmt"
	"slices"
	"strconv"
	"strings"
	"testing"

	"amber/amber"
	"amber/api"
)

// The promises of the whole about time: logs, programs, plans and trips.

// TestLogIsThePresent: a checkpoint and a log, in the place of the original, beside it, behind a crash, and on another machine.
func TestLogIsThePresent(t *testing.T) {
	for seed := range 60 {
		for _, how := range []string{"beside", "in its place", "behind a crash", "on another machine"} {
			d := dice(seed)
			l := newTelling(t, "P9")
			slot := l.saved(&d)
			legs, count, events := 1+d.below(4), 0, ""
			for range legs {
				first, rest, _ := strings.Cut(l.do(fmt.Sprint("record 0 ", slot, d.picks())), "\n")
				count += number(strings.TrimPrefix(first, "ok "))
				events += rest
			}
			tree := l.tree(slot)
			switch how {
			case "in its place":
				l.must(fmt.Sprint("call 0 13 ", slot))
			case "behind a crash":
				l.tells("crash 0101\nopen 0 31 -> ok 1")
			case "on another machine":
				l.tells("send\nswap -> ok 1\ntake")
				for range 2 {
					l.must("call 0 2")
				}
				for l.do("tick") != "ok 0\n" {
					for l.do("pass 0") != "no 1\n" {
					}
				}
				l.tells("open 0 17 -> ok 0\nland -> ok 1")
			}
			woken := l.first("wake")
			l.thaw(woken)
			want := fmt.Sprintf("ok %d %d\n%s", legs, count, events)
			l.same("the replay "+how, l.do(fmt.Sprint("replay 0 ", woken)), want)
			l.same("the tree "+how, l.tree(woken), tree)
			l.tells("audit -> ok 0")
		}
	}
}

// TestLogParts: what another run has changed is told.
func TestLogParts(t *testing.T) {
	parted := 0
	for seed := range 60 {
		d := dice(seed)
		l := newTelling(t, "P9")
		slot := l.saved(&d)
		for range 3 {
			l.must(fmt.Sprint("record 0 ", slot, d.picks()))
		}
		woken := l.first("wake")
		l.thaw(woken)
		l.must(fmt.Sprint("call 0 22 ", woken, " 8 0"))
		l.must(fmt.Sprint("call 0 40 ", woken, " 0 4 9 0 :", strings.Repeat("00", 36)))
		if got := l.do(fmt.Sprint("replay 0 ", woken)); strings.HasPrefix(got, "no 211 ") {
			parted++
		} else if !strings.HasPrefix(got, "ok 3 ") {
			t.Fatalf("P9: seed %d: replay tells %q", seed, got)
		}
	}
	if parted < 40 {
		t.Errorf("P9: only %d of 60 logs part", parted)
	}
}

// sources: programs, with answers enough for them.
var sources = []string{
	"emit 1; emit 2 + 3 * 4; stop 9;",
	"var n; n = 3; while n { emit n; n = n - 1; yield; } stop 9;",
	"var a[3]; a[ask] = ask; emit a[1]; emit a[2];",
	"var s; var n; while n < 4 { s = s + ask; n = n + 1; if s > 9 { break; } else if n == 2 { yield; continue; } emit s; } stop s / n;",
	"emit ask / ask; emit ask % ask;",
	"var i; var p[20]; i = 2; while i < 20 { if !p[i] { emit i; var2 = 0; } i = i + 1; }",
	"var i; var j; var p[20]; i = 2; while i < 20 { if !p[i] { emit i; j = i + i; while j < 20 { p[j] = 1; j = j + i; } } i = i + 1; }",
	"while 1 { emit ask ^ 0xff; yield; { yield; } }",
	"emit -1 > 1; emit ~ask << 3; emit 0 && 1 / 0; emit 5 || ask; stop 1 << 31;",
	"var x; x = 70000; while x { x = x / 3; emit x; if x == ask { stop 4294967295; } }",
	"",
}

// calls tells what of a run's events a meaning tells: emit, exit, ask and yield with their words.
func (l telling) calls(events string) []string {
	l.t.Helper()
	var out []string
	for line := range strings.Lines(events) {
		f := strings.Fields(line)
		if f[0] != "sys" {
			continue
		}
		// The word of emit and exit stands in register 1, that of ask is what came back.
		switch word := map[string]string{"14": f[4], "1": f[4], "24": f[10], "0": "0"}[f[3]]; word {
		case "":
			l.t.Fatalf("P11: a compiled program calls %q", line)
		default:
			out = append(out, "out "+f[3]+" "+word)
		}
	}
	return out
}

// TestCompiledRunsAsMeant: a source's meaning, and its program run by any picks.
func TestCompiledRunsAsMeant(t *testing.T) {
	for n, source := range sources {
		for seed := range 12 {
			d := dice(100*n + seed)
			l := newTelling(t, "P11")
			if got := l.do("speak p " + source); !strings.HasPrefix(got, "ok") {
				l.same("the meaning of what is refused", l.do("mean 9 - "+source), got)
				break
			}
			l.tells("prog z .zero 512\ncall 0 9 32 0 0\nload 1 0 p")
			// The pages that the program doesn't fill are zeros.
			pages := len(strings.Fields(l.must("load 0 0 p")))
			l.tells("prog z .zero " + fmt.Sprint(512-32*pages) + "\nload 1 " + fmt.Sprint(pages) + " z\ncall 0 10 0 0")
			var answers []string
			for range d.below(8) {
				answers = append(answers, strconv.Itoa(d.of(0, 1, 2, 3, 5, 4294967295)))
			}
			list := "-"
			if len(answers) > 0 {
				list = strings.Join(answers, ",")
			}
			mean := strings.Split(l.must("mean 900 "+list+" "+source), "\n")
			var got []string
			for range 40 {
				events := l.do("run 0 0" + strings.Repeat(fmt.Sprint(" 0:", d.of(1, 2, 7, 30)), 1+d.below(20)) + " ? " + strings.Join(answers, " "))
				some := l.calls(events)
				for _, call := range some {
					if strings.HasPrefix(call, "out 24 ") && len(answers) > 0 {
						answers = answers[1:]
					}
				}
				got = append(got, some...)
			}
			head := strings.Fields(mean[0])
			want := mean[1:]
			if head[0] == "1" {
				// What rests is compared as far as both go.
				n := min(len(got), len(want))
				got, want = got[:n], want[:n]
			}
			if !slices.Equal(got, want) {
				t.Fatalf("P11: %q by seed %d calls %q; it means %q", source, seed, got, want)
			}
			if head[0] != "1" {
				l.tells("call 0 21 0 -> ok " + head[0] + " " + head[1] + " 0 0")
			}
		}
	}
}

// spinners makes so many environments that never stop; their serials.
func (l telling) spinners(n int) []string {
	l.t.Helper()
	l.must("prog spin addi r4, 1|jmp -2")
	var serials []string
	for range n {
		slot := l.first("call 0 9 2 0 0")
		state := strings.Split(l.must("state"), "\n")
		number, serial := 0, ""
		for _, line := range state[1:] {
			if f := strings.Fields(line); f[0] == "env" {
				number, serial = at(f, 1), f[2]
			}
		}
		l.must(fmt.Sprint("load ", number, " 0 spin"))
		l.must(fmt.Sprint("call 0 10 ", slot, " 0"))
		serials = append(serials, serial)
	}
	return serials
}

// chosen does a drive, and tells who was chosen.
func (l telling) chosen(line string) []string {
	l.t.Helper()
	text := l.must(line)
	_, chose, _ := strings.Cut(text, "chose ")
	return strings.Fields(chose)
}

// TestNobodyStarves: under each plan everybody's turn comes within the bound of chapter 24.
func TestNobodyStarves(t *testing.T) {
	for seed := range 12 {
		d := dice(seed)
		n := 2 + d.below(6)
		for kind := 1; kind <= 3; kind++ {
			l := newTelling(t, "P12")
			serials := l.spinners(n)
			l.must(fmt.Sprint("plan ", kind))
			weights := map[string]int{}
			for k, s := range serials {
				weights[s] = 1 + d.below(8)
				l.must(fmt.Sprint("weigh 0 -1 ", k+1, " ", weights[s]))
			}
			var all []string
			for range 4 {
				all = append(all, l.chosen("drive 0 -1 100 4")...)
			}
			bound := map[int]int{1: n, 2: 8*n + 8, 3: 8 + n}[kind]
			for _, s := range serials {
				gap := 0
				for _, c := range all {
					if gap++; c == s {
						gap = 0
					}
					if gap >= bound {
						t.Fatalf("P12: plan %d of %d: %s is not chosen within %d turns: %q", kind, n, s, bound, all)
					}
				}
			}
			if kind == 2 {
				l.fair(all, weights)
			}
		}
	}
}

// fair: by shares each gets turns in the measure of its weight.
func (l telling) fair(all []string, weights map[string]int) {
	l.t.Helper()
	turns := map[string]int{}
	for _, c := range all {
		turns[c]++
		for s, v := range weights {
			for r, w := range weights {
				if gap := turns[s]*(840/v) - turns[r]*(840/w); gap > 840/v+840/w || -gap > 840/v+840/w {
					l.t.Fatalf("P12: %s of weight %d has %d turns, %s of weight %d %d", s, v, turns[s], r, w, turns[r])
				}
			}
		}
	}
}

// TestBackAndForth: a trip finds the same events and the same forests.
func TestBackAndForth(t *testing.T) {
	moved := 0
	for seed := range 60 {
		d := dice(seed)
		l := newTelling(t, "P13")
		slot := l.settle(&d)
		l.must("open 0 31")
		l.must(fmt.Sprint("trip ", slot))
		trees := []string{l.tree(slot)}
		l.same("the fold", l.must("fold"), "1\n"+trees[0])
		var events []string
		behind := 0
		for range 12 {
			switch what := d.below(5); {
			case what < 2 || len(events) == 0:
				told := l.do(fmt.Sprint("go", d.picks()))
				_, text, _ := strings.Cut(told, "\n")
				events, trees = append(events[:behind], text), append(trees[:behind+1], l.tree(slot))
				behind++
			case what < 4:
				to := d.below(behind + 1)
				f := strings.Fields(l.must(fmt.Sprint("back ", behind-to)))
				behind, slot = to, at(f, 2)
				l.same("back", f[0]+" "+f[1], fmt.Sprint(behind, " ", len(events)))
				moved++
			default:
				to := behind + d.below(len(events)-behind+1)
				head, text, _ := strings.Cut(l.do(fmt.Sprint("forth ", to-behind)), "\n")
				f := strings.Fields(head)
				l.same("the events forth", text, strings.Join(events[behind:to], ""))
				behind, slot = to, at(f, 3)
				l.same("forth", head, fmt.Sprint("ok ", behind, " ", len(events), " ", slot, " ", strings.Count(text, "\n")))
				moved++
			}
			l.same("the tree", l.tree(slot), trees[behind])
		}
		// A register of the root, wherever it is first what it is now.
		now := strings.Fields(trees[behind])
		want := slices.IndexFunc(trees, func(tree string) bool { return strings.Fields(tree)[11] == now[11] })
		l.tells("find 2 0 4 0 " + now[11] + " -> ok " + fmt.Sprint(want) + "\naudit -> ok 0")
	}
	if moved < 200 {
		t.Errorf("P13: moved %d times", moved)
	}
}

// TestWildNumbers: every command ends and none panics, whatever its arguments are.
func TestWildNumbers(t *testing.T) {
	wild := func(d *dice) string {
		return d.text("0", "1", "-1", "2", "3", "15", "16", "31", "47", "48", "63", "64", "127", "128", "255", "256", "511", "1023", "1024", "4095", "4096", "4097", "1048576", "4294967295", "4294967296", "9999999999", "-9999999999")
	}
	refusals := 0
	for seed := range 120 {
		d := dice(seed)
		p := newPair()
		for _, line := range d.script(40) {
			p.do(t, line)
		}
		for range 60 {
			var f []string
			for token := range strings.FieldsSeq(d.formed()) {
				if _, err := strconv.Atoi(token); err == nil && !d.one(3) {
					token = wild(&d)
				}
				if token == "#" {
					break
				}
				f = append(f, token)
			}
			line := strings.Join(f, " ")
			if !isCommand(line) {
				continue
			}
			if strings.HasPrefix(p.do(t, line), "no") {
				refusals++
			}
		}
		p.settle(t)
	}
	if refusals < 1000 {
		t.Errorf("P1: only %d refusals", refusals)
	}
	for seed := range 200 {
		d := dice(seed)
		amber.Forest(d.odd())
		medium := make([]byte, d.of(0, 131072, 131072, 131071))
		if w, code := amber.Over(medium, d.of(0, 1, -1, 1<<60, 1<<63-1)); (w == nil) == (code == api.OK) {
			t.Errorf("P1: Over: %v, %d", w == nil, code)
		}
	}
}
