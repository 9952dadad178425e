package amber_test

import (
	"bytes"
	"slices"
	"strings"
	"testing"

	"amber/amber"
	"amber/api"
)

// Worlds, and scripts as a whole.

// TestPlayIsDo: a script's text is that of its lines.
func TestPlayIsDo(t *testing.T) {
	for seed := range 60 {
		d := dice(500 + seed)
		lines := d.script(60)
		w := amber.New()
		want := ""
		for _, line := range lines {
			text, code := w.Do(line)
			if code != api.OK {
				t.Fatalf("P26.2: Do(%q): %d", line, code)
			}
			want += text
		}
		script := strings.Join(lines, "\n") + d.text("", "\n", "\n\n", "\n# end")
		if line, code := amber.Check(script); line != 0 || code != api.OK {
			t.Fatalf("P26.1: Check(%q): %d, %d", script, line, code)
		}
		for range 2 {
			if got, code := amber.Play(script); got != want || code != api.OK {
				t.Fatalf("P26.2: Play(%q): %q, %d, want %q", script, got, code, want)
			}
		}
		at := d.below(len(lines))
		wrong := strings.Join(slices.Insert(slices.Clone(lines), at, "nonsense"), "\n")
		if line, code := amber.Check(wrong); line != at+1 || code != api.ErrScript {
			t.Fatalf("P26.1: Check of a script with a wrong line %d: %d, %d", at+1, line, code)
		}
		if got, code := amber.Play(wrong); got != "" || code != api.ErrScript {
			t.Fatalf("P26.2: Play of a script with a wrong line: %q, %d", got, code)
		}
	}
}

// TestWrongLinesChangeNothing: of two worlds one is told wrong lines between.
func TestWrongLinesChangeNothing(t *testing.T) {
	wrong := 0
	for seed := range 60 {
		d := dice(700 + seed)
		p := newPair()
		for _, line := range d.script(60) {
			for range d.below(4) {
				bad := d.formed()
				for isCommand(bad) {
					bad = d.changed(bad)
				}
				bad += d.text("", "", "\n", "\n\n", "\ndisk")
				if text, code := p.w.Do(bad); text != "" || code != api.ErrScript {
					t.Fatalf("P26.3: Do(%q): %q, %d", bad, text, code)
				}
				wrong++
			}
			p.do(t, line)
		}
		p.settle(t)
	}
	if wrong < 3000 {
		t.Errorf("P26.3: %d wrong lines", wrong)
	}
	// A command with something behind it does nothing at all.
	for _, line := range []string{"call 0 2", "prog a nop", "open 0 31", "arm 0", "crash -", "swap", "take", "plan 1", "edit 0 0 :01", "forget", "record 0 -1", "speak a"} {
		w := amber.New()
		before := answers(t, w)
		for _, bad := range []string{line + " ?x", line + "\n", line + " \x00", line + " " + strings.Repeat(" ", 4096), strings.ToUpper(line)} {
			if strings.HasPrefix(line, "prog") || strings.HasPrefix(line, "speak") {
				bad = strings.Replace(bad, " a", " a1", 1)
			}
			if text, code := w.Do(bad); text != "" || code != api.ErrScript {
				t.Errorf("P26.3: Do(%.40q): %q, %d", bad, text, code)
			}
		}
		if after := answers(t, w); after != before {
			t.Errorf("P26.3: behind wrong lines %q: %q, before %q", line, after, before)
		}
	}
}

// answers asks a new world for all that it has.
func answers(t *testing.T, w *amber.World) string {
	t.Helper()
	all := string(w.Medium())
	for _, line := range strings.Split("state,disk,where,replay 0 -1,drive 0 -1 0 1,load 0 0 a,pass 0,land,swap,state,disk,swap", ",") {
		text, code := w.Do(line)
		if code != api.OK {
			t.Fatalf("P26.3: Do(%q): %d", line, code)
		}
		all += text
	}
	return all
}

// TestWorldsApart: two worlds know nothing of one another.
func TestWorldsApart(t *testing.T) {
	a, b := newPair(), newPair()
	d, e := dice(11), dice(12)
	one, two := d.script(150), e.script(150)
	for i := range one {
		a.do(t, one[i])
		if i < len(two) {
			b.do(t, two[i])
		}
	}
	a.settle(t)
	b.settle(t)
}

func TestOver(t *testing.T) {
	medium := make([]byte, 131072)
	medium[300], medium[131071] = 9, 8
	for _, c := range []struct {
		size, serial int
		code         api.Errno
	}{
		{131071, 0, api.ErrSize}, {131073, 1, api.ErrSize}, {0, 1, api.ErrSize}, {131072, 0, api.ErrArg}, {131072, -1, api.ErrArg}, {131072, -1 << 63, api.ErrArg}, {131072, 1<<60 + 1, api.ErrArg}, {131072, 1 << 61, api.ErrArg}, {131072, 1<<63 - 1, api.ErrArg}, {131072, 1, api.OK}, {131072, 50, api.OK}, {131072, 1 << 60, api.OK},
	} {
		w, code := amber.Over(append(slices.Clone(medium), 0)[:min(c.size, 131073)], c.serial)
		if code != c.code || (w == nil) != (code != api.OK) {
			t.Errorf("P26.1: Over(%d bytes, %d): %v, %d, want %d", c.size, c.serial, w != nil, code, c.code)
		}
	}
	given := slices.Clone(medium)
	w, _ := amber.Over(given, 1<<60)
	given[300] = 1
	l := telling{t: t, w: w, promise: "P26.1"}
	if got := w.Medium(); !bytes.Equal(got, medium) {
		t.Errorf("P26.1: Medium is not what was given")
	}
	w.Medium()[300] = 2
	l.tells(`
		state -> ok 1152921504606846977/env 0 1152921504606846976 -1 0 0 0 0 0 0 0 0 0 0 0 0 0 64 15 32
		disk -> ok 0 0
		raw 2 -> ok/: ` + strings.Repeat("00", 44) + "09" + strings.Repeat("00", 83) + `
		edit 0 0 :05 -> ok
		crash - -> ok 0
		crash - -> ok 0
		state -> ok 1152921504606846979/env 0 1152921504606846978 -1 0 0 0 0 0 0 0 0 0 0 0 0 0 64 15 32
		swap -> ok 1
		state -> ok 2/env 0 1 -1 0 0 0 0 0 0 0 0 0 0 0 0 0 64 15 32
		raw 2 -> ok/: ` + strings.Repeat("00", 128) + `
	`)
	if got := w.Medium(); !bytes.Equal(got, make([]byte, 131072)) {
		t.Errorf("P26.1: the other machine's medium is not new")
	}
	l.tells("swap -> ok 0")
	medium[0] = 5
	if got := w.Medium(); !bytes.Equal(got, medium) {
		t.Errorf("P26.1: Medium is not what was given and edited")
	}
	if given[300] != 1 || given[0] != 0 {
		t.Errorf("P26.1: Over changes what was handed in")
	}
}

// TestMediumCarriedAway: a world over another's medium has its committed chain.
func TestMediumCarriedAway(t *testing.T) {
	l := tells(t, "P2", saved+"call 0 46 -1 -> ok ..\ncall 0 48 3 0 :"+strings.Repeat("77", 128)+" -> ok 0 0 0 0")
	w, code := amber.Over(l.w.Medium(), 9)
	if code != api.OK {
		t.Fatalf("P26.1: Over: %d", code)
	}
	tree := l.do("tree 0 0")
	other := telling{t: t, w: w, promise: "P2"}
	other.tells("disk -> ok 0 0\nraw 32 -> ok/: " + strings.Repeat("00", 128) + "\nopen 0 31 -> ok 1\nwake -> ok 2")
	if got := other.do("tree 0 2"); got != tree {
		t.Errorf("P2: over the carried medium the tree tells %q, it was %q", got, tree)
	}
	// What is done there is not seen here.
	other.must("edit 0 0 :00000000")
	l.tells("raw 0 -> ok/: 414d42..\ndisk -> ok 7 0 32")
}
