package amber_test

import (
	"encoding/binary"
	"encoding/hex"
	"fmt"
	"reflect"
	"strings"
	"testing"

	"amber/amber"
	"amber/api"
	"amber/chain"
	"amber/image"
)

// Forests as text, and back.

// odd makes any forest, its numbers whatever they are.
func (d *dice) odd() api.Forest {
	n := func() int { return d.of(0, 1, 2, -1, 7, 47, d.below(70), -1<<62, 1<<62-1, 1<<63-1, -1<<63) }
	w := func() uint32 { return uint32(d.of(0, 1, 255, 65536, 1<<32-1, d.below(1<<31))) }
	var f api.Forest
	for range d.below(4) {
		e := api.EnvRec{Parent: n(), State: n(), Code: n(), Bits: n(), Frozen: d.one(2), Quota: api.Quota{Frames: n(), Envs: n(), Extents: n()}}
		for i := range e.Regs.R {
			e.Regs.R[i] = w()
		}
		e.Regs.PC = w()
		f.Envs = append(f.Envs, e)
	}
	for range d.below(4) {
		f.Caps = append(f.Caps, api.CapRec{Env: n(), Slot: n(), Kind: n(), Rights: n(), In: d.one(2), Obj: n(), From: api.Place{Env: n(), Slot: n()}})
	}
	for range d.below(3) {
		f.Maps = append(f.Maps, api.MapRec{Env: n(), V: n(), Slot: n(), Write: d.one(2)})
	}
	for range d.below(3) {
		var p api.Page
		for i := range p {
			p[i] = w()
		}
		f.Pages = append(f.Pages, p)
	}
	for range d.below(3) {
		f.Outs = append(f.Outs, api.OutRec{Kind: n(), Serial: n()})
	}
	return f
}

// scan reads fields of a line: numbers, flags, words and texts.
func scan(t *testing.T, fields []string, into ...any) {
	t.Helper()
	if len(fields) != len(into) {
		t.Fatalf("P26.4: %q has not %d fields", fields, len(into))
	}
	for i, p := range into {
		if flag, ok := p.(*bool); ok {
			*flag = fields[i] == "1" || fields[i] == "in"
			if !*flag && fields[i] != "0" && fields[i] != "out" {
				t.Fatalf("P26.4: no flag: %q", fields[i])
			}
		} else if n, err := fmt.Sscan(fields[i], p); n != 1 || err != nil || fmt.Sprint(reflect.ValueOf(p).Elem()) != fields[i] {
			t.Fatalf("P26.4: no number: %q", fields[i])
		}
	}
}

// forestOf reads a forest's text.
func forestOf(t *testing.T, text string) api.Forest {
	t.Helper()
	var f api.Forest
	for line := range strings.Lines(text) {
		line, ended := strings.CutSuffix(line, "\n")
		fields := strings.Split(line, " ")
		if !ended {
			t.Fatalf("P26.4: %q has no newline behind it", line)
		}
		var place int
		switch fields[0] {
		case "env":
			var e api.EnvRec
			r := &e.Regs.R
			scan(t, fields[1:], &place, &e.Parent, &e.State, &e.Code, &e.Bits, &e.Frozen, &r[0], &r[1], &r[2], &r[3], &r[4], &r[5], &r[6], &r[7], &e.Regs.PC, &e.Quota.Frames, &e.Quota.Envs, &e.Quota.Extents)
			f.Envs = append(f.Envs, e)
			place -= len(f.Envs) - 1
		case "cap":
			var c api.CapRec
			scan(t, fields[1:], &c.Env, &c.Slot, &c.Kind, &c.Rights, &c.In, &c.Obj, &c.From.Env, &c.From.Slot)
			f.Caps = append(f.Caps, c)
		case "map":
			var m api.MapRec
			scan(t, fields[1:], &m.Env, &m.V, &m.Slot, &m.Write)
			f.Maps = append(f.Maps, m)
		case "page":
			var bytes string
			scan(t, fields[1:], &place, &bytes)
			b, err := hex.DecodeString(bytes)
			if err != nil || len(b) != 128 || bytes != strings.ToLower(bytes) {
				t.Fatalf("P26.4: no page: %q", line)
			}
			var p api.Page
			for i := range p {
				p[i] = binary.LittleEndian.Uint32(b[4*i:])
			}
			f.Pages = append(f.Pages, p)
			place -= len(f.Pages) - 1
		case "out":
			var o api.OutRec
			scan(t, fields[1:], &place, &o.Kind, &o.Serial)
			f.Outs = append(f.Outs, o)
			place -= len(f.Outs) - 1
		default:
			t.Fatalf("P26.4: a line %q", line)
		}
		if place != 0 {
			t.Fatalf("P26.4: %q stands at another place", line)
		}
	}
	return f
}

// TestForestText: the text of any forest is that of the model, and can be read back: so no two forests have one.
func TestForestText(t *testing.T) {
	if got := amber.Forest(api.Forest{}); got != "" {
		t.Errorf("P26.4: the text of nothing is %q", got)
	}
	for seed := range 3000 {
		d := dice(seed)
		f := d.odd()
		text := amber.Forest(f)
		if want := forestText(f); text != want {
			t.Fatalf("P26.4: Forest(%+v): %q, want %q", f, text, want)
		}
		if back := forestOf(t, text); !reflect.DeepEqual(back, f) {
			t.Fatalf("P26.4: %q is read as %+v, not %+v", text, back, f)
		}
	}
}

// canonical: forests of trees that scripts make, as Canon tells them.
func canonical(t *testing.T) []api.Forest {
	t.Helper()
	var l []api.Forest
	for seed := range 90 {
		d := dice(1000 + seed)
		p := newPair()
		for _, line := range d.script(40) {
			p.do(t, line)
		}
		for _, line := range []string{"tree 0 0", "tree 0 1", "tree 0 4"} {
			text, ok := strings.CutPrefix(p.do(t, line), "ok\n")
			if !ok {
				continue
			}
			f := forestOf(t, text)
			c, code := chain.Canon(f)
			if code != api.OK || !chain.Same(f, c) {
				t.Fatalf("P26.4: Canon of %q: %d", text, code)
			}
			l = append(l, c)
		}
	}
	return l
}

// TestSameTextSameForest: canonical forests, and each with one thing changed.
func TestSameTextSameForest(t *testing.T) {
	all := canonical(t)
	texts := map[string]api.Forest{}
	changed := 0
	hold := func(f api.Forest) {
		text := amber.Forest(f)
		if g, there := texts[text]; there && !chain.Same(f, g) {
			t.Errorf("P26.4: two forests have the text %q", text)
		}
		texts[text] = f
	}
	for _, f := range all {
		hold(f)
		for i := range 200 {
			d := dice(i)
			g := d.alter(forestOf(t, amber.Forest(f)))
			if c, code := chain.Canon(g); code == api.OK && image.Valid(c) == nil {
				hold(c)
				changed++
			}
		}
	}
	if len(all) < 40 || changed < 1000 || len(texts) < 300 {
		t.Errorf("P26.4: %d forests, %d changed ones, %d texts: too few", len(all), changed, len(texts))
	}
}

// alter changes one thing of a forest.
func (d *dice) alter(f api.Forest) api.Forest {
	e := &f.Envs[d.below(len(f.Envs))]
	switch what := d.below(14); {
	case what == 0:
		e.State = d.below(5)
	case what == 1:
		e.Code++
	case what == 2:
		e.Bits++
	case what == 3:
		e.Frozen = !e.Frozen
	case what == 4:
		e.Regs.R[d.below(8)]++
	case what == 5:
		e.Regs.PC++
	case what == 6:
		e.Quota.Frames++
	case what == 7:
		e.Quota.Extents++
	case what == 8 && len(f.Caps) > 0:
		f.Caps[d.below(len(f.Caps))].Rights ^= 1 << d.below(4)
	case what == 9 && len(f.Caps) > 0:
		f.Caps[d.below(len(f.Caps))].Slot++
	case what == 10 && len(f.Caps) > 0:
		f.Caps[d.below(len(f.Caps))].From = api.Place{Env: -1, Slot: -1}
	case what == 11 && len(f.Maps) > 0:
		f.Maps[d.below(len(f.Maps))].V++
	case what == 12 && len(f.Maps) > 0:
		m := &f.Maps[d.below(len(f.Maps))]
		m.Write = !m.Write
	case what == 13 && len(f.Pages) > 0:
		f.Pages[d.below(len(f.Pages))][d.below(32)] ^= 1 << d.below(32)
	case len(f.Outs) > 0:
		f.Outs[d.below(len(f.Outs))].Serial++
	}
	return f
}
