package amber_test

import (
	"fmt"
	"strings"
	"testing"
)

// Trees that name nothing outside, made by lines, and what is promised of them.

// guests: programs that end seldom; p counts, asks and writes, q takes frames and gives them back, r makes environments and ends them, s waits for notices, t is compiled.
const guests = `prog p li r4, 0|loop: addi r4, 1|mov r1, r4|sys 14|st r4, r0, 40|sys 24|sys 0|jmp loop
prog q sys 2|mov r4, r1|li r1, 3|mov r2, r4|li r3, 1|sys 3|st r4, r0, 100|ld r1, r0, 100|sys 14|li r1, 3|sys 4|mov r1, r4|sys 7|jmp -14
prog r li r1, 1|li r2, 0|li r3, 0|sys 9|mov r4, r1|sys 20|sys 14|mov r1, r4|li r2, 5|li r3, 77|sys 22|mov r1, r4|sys 13|jmp -14
prog s sys 12|mov r4, r1|sys 14|addi r5, 3|li r1, 2|mov r2, r5|sys 11|jmp -8
speak t var n; var a[3]; while 1 { n = n + ask + 1; a[n % 3] = n; emit a[0] + a[1]; if n > 20 { stop n; } }`

// first tells the first number that a line tells.
func (l telling) first(line string) int {
	l.t.Helper()
	return number(l.must(line))
}

// settle makes a tree below environment 0, by the dice; the slot of its root.
func (l telling) settle(d *dice) int {
	l.t.Helper()
	for line := range strings.SplitSeq(guests, "\n") {
		l.must(line)
	}
	slot := l.first("call 0 9 24 5 0")
	l.people(d, 1, d.text("p", "q", "r", "s", "t"))
	two := l.first("call 1 9 8 2 0")
	l.people(d, 2, d.text("p", "q", "r", "s"))
	if d.one(2) {
		l.must(fmt.Sprint("call 1 6 0 ", two, " ", d.of(15, 7, 3, 1)))
		l.must(fmt.Sprint("call 1 19 ", two, " 7 2 0"))
	}
	if d.one(2) {
		l.must(fmt.Sprint("call 1 5 1 ", d.of(15, 7, 1)))
	}
	if d.one(2) {
		three := l.first("call 2 9 3 0 0")
		l.people(d, 3, d.text("p", "s"))
		l.must(fmt.Sprint("call 2 10 ", three, " 0"))
		l.must(fmt.Sprint("call 0 44 ", slot, " 2 0 -1 3"))
	}
	if d.one(4) {
		l.must(fmt.Sprint("call 0 38 ", slot, " 1 1"))
	}
	l.must(fmt.Sprint("call 1 10 ", two, " 0"))
	l.must(fmt.Sprint("call 0 10 ", slot, " 0"))
	return slot
}

// people gives an environment its program, and a page to write to.
func (l telling) people(d *dice, env int, program string) {
	l.t.Helper()
	l.must(fmt.Sprint("load ", env, " 0 ", program))
	page := d.of(1, 2)
	if program == "t" {
		page = 12
	}
	l.must(fmt.Sprint("load ", env, " ", page, " p"))
}

// saved settles a tree, opens a store and saves the tree; its slot.
func (l telling) saved(d *dice) int {
	l.t.Helper()
	slot := l.settle(d)
	if !d.one(3) {
		l.must(fmt.Sprint("run 0 ", slot, d.picks()))
	}
	l.must("open 0 31")
	l.must(fmt.Sprint("save ", slot, " ", d.text("full", "next")))
	return slot
}

// picks makes some of a run, with answers.
func (d *dice) picks() string {
	s := ""
	for range 1 + d.below(5) {
		s += fmt.Sprint(" ", d.of(0, 0, 0, 1, 1, 2, 3), ":", d.of(1, 3, 8, 20, 60))
	}
	return s + d.text("", " ?", " ? 5", " ? 1 0 4294967295 7")
}

func (l telling) tree(slot int) string {
	l.t.Helper()
	return l.must(fmt.Sprint("tree 0 ", slot))
}

// thaw lets the root of a woken tree go.
func (l telling) thaw(slot int) {
	l.t.Helper()
	l.must(fmt.Sprint("call 0 38 ", slot, " 0 0"))
}

// same holds two texts against one another.
func (l telling) same(what, got, want string) {
	l.t.Helper()
	if got != want {
		l.t.Fatalf("%s: %s: %q, want %q", l.promise, what, got, want)
	}
}

// TestRestoredIsFrozen: the woken tree tells the text of the one that was saved.
func TestRestoredIsFrozen(t *testing.T) {
	for seed := range 60 {
		d := dice(seed)
		l := newTelling(t, "P2")
		slot := l.saved(&d)
		tree := l.tree(slot)
		l.same("fold", l.must("fold"), "1\n"+tree)
		l.must(fmt.Sprint("run 0 ", slot, d.picks()))
		woken := l.first("wake")
		l.same("the woken tree", l.tree(woken), tree)
		l.must(fmt.Sprint("call 0 13 ", slot))
		l.same("the woken tree alone", l.tree(woken), tree)
		l.tells("audit -> ok 0")
	}
}

// TestOuts: capabilities on outs are the caller's, or nothing is woken.
func TestOuts(t *testing.T) {
	for seed := range 40 {
		d := dice(seed)
		l := newTelling(t, "P2")
		slot := l.settle(&d)
		given := l.first("call 0 2")
		own := l.first("call 0 9 1 0 0")
		l.must(fmt.Sprint("call 0 42 ", given, " ", slot, " 0 -1 ", d.of(7, 3, 1)))
		l.must(fmt.Sprint("call 0 42 ", own, " ", slot, " 1 -1 ", d.of(15, 7, 2)))
		l.must("open 0 31")
		l.must(fmt.Sprint("save ", slot, " full"))
		tree := l.tree(slot)
		woken := l.first("wake")
		l.same("the woken tree", l.tree(woken), tree)
		l.tells("send -> no 3")
		l.must(fmt.Sprint("call 0 13 ", woken))
		drop := d.of(given, own)
		l.must(fmt.Sprint("call 0 7 ", drop))
		before := l.do("state")
		l.tells("wake -> no 3")
		l.same("the state behind a refused wake", l.do("state"), before)
		l.tells("crash -\nopen 0 31 -> ok 1\nwake -> no 3\nfold -> ok 1/..\naudit -> ok 0")
	}
}

// TestNoGuestTellsThemApart: the original in one world, the woken tree in the other.
func TestNoGuestTellsThemApart(t *testing.T) {
	for seed := range 80 {
		d, e := dice(seed), dice(seed)
		a, b := newTelling(t, "P3"), newTelling(t, "P3")
		slot := a.saved(&d)
		b.same("the slot", fmt.Sprint(b.saved(&e)), fmt.Sprint(slot))
		woken := b.first("wake")
		a.same("wake", a.must("wake"), fmt.Sprint(woken))
		b.thaw(woken)
		for range 6 {
			picks := d.picks()
			a.same("the run "+picks, b.do(fmt.Sprint("run 0 ", woken, picks)), a.do(fmt.Sprint("run 0 ", slot, picks)))
			a.same("the forest behind "+picks, b.tree(woken), a.tree(slot))
		}
		a.tells("audit -> ok 0")
		b.tells("audit -> ok 0")
	}
}

// twice settles a tree, saves it, lets it run, and is about to save it again: what the first and the second save would tell.
func (l telling) twice(d *dice) (slot int, was, is string) {
	l.t.Helper()
	slot = l.saved(d)
	was = l.must("fold")
	for range d.below(3) {
		l.must(fmt.Sprint("run 0 ", slot, d.picks()))
		l.must(fmt.Sprint("save ", slot, " ", d.text("full", "next")))
		was = l.must("fold")
	}
	l.must(fmt.Sprint("run 0 ", slot, d.picks()))
	_, text, _ := strings.Cut(was, "\n")
	return slot, text, l.tree(slot)
}

// TestCrashLeavesACommit: at every act of a save, with all sets of a few waiting writes, or some of many.
func TestCrashLeavesACommit(t *testing.T) {
	done := 0
	for seed := range 8 {
		how := "full"
		if seed%2 == 0 {
			how = "next"
		}
		for act := 0; ; act++ {
			sets := crashSets(t, seed, act, how)
			for _, keep := range sets {
				d := dice(seed)
				l := newTelling(t, "P4")
				slot, was, is := l.twice(&d)
				l.must(fmt.Sprint("arm ", act))
				saved := strings.HasPrefix(l.do(fmt.Sprint("save ", slot, " ", how)), "ok")
				l.must("crash " + keep)
				l.must("open 0 31")
				_, text, _ := strings.Cut(l.must("fold"), "\n")
				if saved && text != is || text != is && text != was {
					t.Fatalf("P4: seed %d, act %d, crash %s, saved %v: the fold is %q, it was %q and should become %q", seed, act, keep, saved, text, was, is)
				}
				again := l.must("fold")
				l.tells("close -> ok\nopen 0 31 -> ok ..")
				l.same("opened again", l.must("fold"), again)
				l.tells("audit -> ok 0")
				done++
			}
			if len(sets) == 1 && sets[0] == "-" && act > 3 {
				break
			}
		}
	}
	if done < 400 {
		t.Errorf("P4: %d crashes", done)
	}
}

// crashSets: which writes a crash keeps that comes at this act of a save.
func crashSets(t *testing.T, seed, act int, how string) []string {
	t.Helper()
	d := dice(seed)
	l := newTelling(t, "P4")
	slot, _, _ := l.twice(&d)
	l.must(fmt.Sprint("arm ", act))
	l.do(fmt.Sprint("save ", slot, " ", how))
	waiting := len(strings.Fields(l.must("disk"))) - 2
	if waiting == 0 {
		return []string{"-"}
	}
	var sets []string
	for set := range 1 << min(waiting, 4) {
		if waiting > 4 {
			set = d.below(1 << min(waiting, 30))
		}
		sets = append(sets, fmt.Sprintf("%0*b", waiting, set))
	}
	return append(sets, strings.Repeat("1", waiting))
}

// TestNothingWasCommitted: behind a crash of the first save there is nothing, or all of it.
func TestNothingWasCommitted(t *testing.T) {
	for seed := range 3 {
		for act := range 40 {
			for _, keep := range []string{"-", "1", "0", "10101010", strings.Repeat("1", 60)} {
				d := dice(seed)
				l := newTelling(t, "P4")
				slot := l.settle(&d)
				tree := l.tree(slot)
				l.must("open 0 31")
				l.must(fmt.Sprint("arm ", act))
				saved := strings.HasPrefix(l.do(fmt.Sprint("save ", slot, " full")), "ok")
				l.must("crash " + keep)
				gen := l.must("open 0 31")
				got := l.do("fold")
				if gen == "0" && (got != "no 4\n" || saved) || gen == "1" && got != "ok 1\n"+tree+"\n" || gen != "0" && gen != "1" {
					t.Fatalf("P4: act %d, crash %s, saved %v: generation %s, fold tells %q", act, keep, saved, gen, got)
				}
			}
		}
	}
}

// TestTooLittleRoom: with too few extents, frames, environments or slots nothing is saved or woken, and the chain stays.
func TestTooLittleRoom(t *testing.T) {
	for seed := range 20 {
		d := dice(seed)
		l := newTelling(t, "P7")
		slot := l.saved(&d)
		l.must(fmt.Sprint("run 0 ", slot, d.picks()))
		fold, where := l.must("fold"), l.must("where")
		left := strings.Fields(l.must("call 0 50"))
		for _, c := range []struct {
			take string
			save string
		}{
			{"call 0 9 0 0 " + left[2], "no 2"},
			{fmt.Sprint("call 0 9 ", number(left[0])-23, " 0 0"), "ok"},
			{fmt.Sprint("call 0 9 0 ", number(left[1])-6, " 0"), "ok"},
		} {
			kept := l.first(c.take)
			wake := "ok"
			if c.save == "ok" {
				wake = "no 2"
			}
			if got := l.do("wake"); !strings.HasPrefix(got, wake) {
				t.Fatalf("P7: behind %q wake tells %q", c.take, got)
			}
			if c.save != "ok" {
				l.tells(fmt.Sprint("save ", slot, " full -> no 2\nsave ", slot, " next -> no 2"))
			}
			l.same("where", l.must("where"), where)
			l.same("fold", l.must("fold"), fold)
			l.must(fmt.Sprint("call 0 13 ", kept))
			if wake == "ok" {
				l.must(fmt.Sprint("call 0 13 ", kept+1))
			}
		}
		// The last slots go too.
		own := l.first("call 0 9 0 0 0")
		for {
			if got := l.do(fmt.Sprint("call 0 5 ", own, " 1")); got == "no 2\n" {
				break
			}
		}
		l.tells("wake -> no 2\nsave " + fmt.Sprint(slot) + " full -> no 2")
		l.same("where", l.must("where"), where)
		l.same("fold", l.must("fold"), fold)
		l.tells("audit -> ok 0")
		l.must(fmt.Sprint("call 0 8 ", own))
		l.must(fmt.Sprint("save ", slot, " full"))
		l.first("wake")
	}
}
