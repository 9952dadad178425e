package amber_test

import (
	"strings"
	"testing"

	"amber/amber"
	"amber/api"
)

// What the tests share: worlds that are told lines, and dice.

// telling: a world, and by which promise it is asked.
type telling struct {
	t       *testing.T
	w       *amber.World
	promise string
}

func newTelling(t *testing.T, promise string) telling {
	t.Helper()
	return telling{t: t, w: amber.New(), promise: promise}
}

// do does a line that is a command.
func (l telling) do(line string) string {
	l.t.Helper()
	text, code := l.w.Do(line)
	if code != api.OK {
		l.t.Fatalf("%s: Do(%q): %q, %d; it is a command", l.promise, line, text, code)
	}
	return text
}

// must does a line that must not be refused; what it tells behind "ok".
func (l telling) must(line string) string {
	l.t.Helper()
	text := l.do(line)
	rest, ok := strings.CutPrefix(text, "ok")
	if !ok {
		l.t.Fatalf("%s: %.200q tells %.200q", l.promise, line, text)
	}
	return strings.TrimSpace(rest)
}

// tells does the lines of a script, each with what it must tell behind an arrow (a "/" parts its lines, ".." stands for anything up to the end), or without one: then it must not be refused.
func (l telling) tells(script string) {
	l.t.Helper()
	for step := range strings.Lines(script) {
		step = strings.TrimSpace(step)
		line, want, there := strings.Cut(step, " -> ")
		switch {
		case step == "":
			continue
		case !there:
			l.must(step)
			continue
		}
		want = strings.ReplaceAll(want, "/", "\n") + "\n"
		got := l.do(line)
		head, open := strings.CutSuffix(want, "..\n")
		if open && strings.HasPrefix(got, head) || got == want {
			continue
		}
		l.t.Errorf("%s: %.200q tells %.2000q, want %.2000q", l.promise, line, got, want)
	}
}

func tells(t *testing.T, promise, script string) telling {
	t.Helper()
	l := newTelling(t, promise)
	l.tells(script)
	return l
}

// dice: numbers by a fixed rule, so that each run of the tests is the same.
type dice uint64

func (d *dice) below(n int) int {
	*d = *d*6364136223846793005 + 1442695040888963407
	return int(uint64(*d)>>33) % n
}

func (d *dice) of(l ...int) int { return l[d.below(len(l))] }

func (d *dice) text(l ...string) string { return l[d.below(len(l))] }

// one tells something that happens once in n times.
func (d *dice) one(n int) bool { return d.below(n) == 0 }
