package amber_test

import (
	"encoding/binary"
	"encoding/hex"
	"fmt"
	"slices"
	"strings"
	"testing"

	"amber/api"
	"amber/crc"
	"amber/ferry"
	"amber/image"
	"amber/squeeze"
)

// What an enemy does: to the disk, and on the line between the machines.

// edit lays bytes on the medium from a place of an extent on.
func (l telling) edit(extent, from int, data []byte) {
	l.t.Helper()
	for i := 0; i < len(data); {
		at := (from + i) % 128
		n := min(128-at, len(data)-i)
		l.must(fmt.Sprintf("edit %d %d :%x", extent*32+(from+i)/128, at, data[i:i+n]))
		i += n
	}
}

// medium tells bytes of an extent.
func (l telling) medium(extent, from, size int) []byte {
	l.t.Helper()
	return l.w.Medium()[extent*4096+from:][:size]
}

// superblock makes one that names images, each of so many bytes on one extent.
func superblock(gen int, sizes, extents []int) []byte {
	b := make([]byte, 128)
	copy(b, "AMBS")
	binary.LittleEndian.PutUint32(b[4:], uint32(gen))
	b[8] = byte(len(sizes))
	for i := range sizes {
		at := 9 + 12*i
		binary.LittleEndian.PutUint32(b[at:], uint32(sizes[i]))
		copy(b[at+4:], []byte{byte(extents[i]), 255, 255, 255, 255, 255, 255, 255})
	}
	binary.LittleEndian.PutUint32(b[124:], crc.Sum(b[:124]))
	return b
}

// forge makes the bytes of a full image of some forest that is like one, or another thing altogether.
func (d *dice) forge(t *testing.T, f api.Forest, gen int) []byte {
	for range 50 {
		g := forestOf(t, forestText(f))
		for range d.below(3) {
			g = d.alter(g)
		}
		switch d.below(6) {
		case 0:
			g.Outs = append(g.Outs, api.OutRec{Kind: d.of(1, 2, 3), Serial: d.of(1, 2, 3, 20, 99)})
			g.Caps = append(g.Caps, api.CapRec{Env: len(g.Envs) - 1, Slot: 47, Kind: g.Outs[len(g.Outs)-1].Kind, Rights: d.of(7, 3, 15), Obj: len(g.Outs) - 1, From: api.Place{Env: -1, Slot: -1}})
		case 1:
			g.Caps = append(g.Caps, api.CapRec{Env: len(g.Envs) - 1, Slot: 46, Kind: 2, Rights: 15, In: true, Obj: 0, From: api.Place{Env: -1, Slot: -1}})
		case 2:
			g.Envs[0].Quota = api.Quota{Frames: d.of(24, 64, 40), Envs: d.of(5, 15, 8), Extents: d.of(0, 32, 9)}
		}
		im := api.Image{Gen: gen, Forest: g}
		for i := range g.Pages {
			im.Keys = append(im.Keys, api.Key{Serial: i + 1 + d.below(2)*i})
			im.Refs = append(im.Refs, -1)
		}
		if b, err := image.Encode(im); err == nil {
			return b
		}
	}
	return []byte("no image")
}

// TestEnemyGainsNothing: whatever lies on the disk, a wake makes a fresh tree out of the caller's own, or changes nothing.
func TestEnemyGainsNothing(t *testing.T) {
	woken, codes := 0, map[string]int{}
	for seed := range 600 {
		d := dice(seed)
		l := newTelling(t, "P5")
		slot := l.saved(&d)
		// Things of the caller's that an image could ask for.
		l.must("call 0 2")
		l.must("call 0 9 2 1 1")
		if d.one(2) {
			l.must(fmt.Sprint("save ", slot, " next"))
		}
		f := forestOf(t, l.tree(slot)+"\n")
		switch d.below(4) {
		case 0:
			for range 1 + d.below(3) {
				l.edit(d.of(0, 1, 31), d.below(400), []byte{byte(d.below(256))})
			}
		case 1:
			gen := 10 + d.below(2)
			b := d.forge(t, f, gen)
			l.edit(9, 0, b)
			l.edit(31, gen%2*128, superblock(gen, []int{len(b)}, []int{d.of(9, 9, 9, 9, 9, 9, 31, 0)}))
		case 2:
			a := d.forge(t, f, 3)
			b := d.forge(t, f, 4)
			l.edit(9, 0, a)
			l.edit(10, 0, b)
			l.edit(31, 0, superblock(4, []int{len(a), len(b)}, []int{9, d.of(10, 9)}))
		case 3:
			b := d.forge(t, f, 1)
			l.edit(0, 0, b)
			if d.one(2) {
				l.edit(31, 128, superblock(1, []int{len(b)}, []int{0}))
			}
		}
		if !d.one(5) {
			l.must("close")
			if got := l.do("open 0 31"); !strings.HasPrefix(got, "ok") {
				continue
			}
		}
		before := strings.Split(l.must("state"), "\n")
		told := strings.Fields(l.do("wake"))
		after := strings.Split(l.must("state"), "\n")
		if told[0] == "no" {
			codes[told[1]]++
			if !slices.Equal(before[1:], after[1:]) {
				t.Fatalf("P5: seed %d: wake is refused with %s, and the state becomes %q from %q", seed, told[1], after, before)
			}
		} else {
			woken++
			l.fresh(seed, number(told[1]), before, after)
		}
		l.tells("audit -> ok 0")
	}
	if woken < 100 || codes["5"] < 30 || codes["3"] < 5 || codes["2"] < 5 {
		t.Errorf("P5: %d trees were woken; refused: %v", woken, codes)
	}
}

// fresh looks at what a wake has changed: nothing of before is gone; what is new belongs to new environments, but for one slot of the caller's.
func (l telling) fresh(seed, slot int, before, after []string) {
	l.t.Helper()
	serial := number(before[0])
	var lines []string
	for _, line := range before[1:] {
		if !slices.Contains(after, line) {
			l.t.Fatalf("P5: seed %d: behind a wake %q is gone or changed", seed, line)
		}
	}
	for _, line := range after[1:] {
		if !slices.Contains(before[1:], line) {
			lines = append(lines, line)
		}
	}
	envs, frames, given := map[int]bool{}, map[int]bool{}, map[string]int{}
	for _, line := range lines {
		f := strings.Fields(line)
		switch n := func(i int) int { return number(f[i]) }; f[0] {
		case "env":
			envs[n(1)] = true
			if n(2) < serial || n(3) != 0 && !envs[n(3)] {
				l.t.Fatalf("P5: seed %d: an environment that is not fresh, or not below the caller: %q", seed, line)
			}
		case "frame":
			frames[n(1)] = true
			if n(2) < serial {
				l.t.Fatalf("P5: seed %d: a frame that is not fresh: %q", seed, line)
			}
		case "ext":
			l.t.Fatalf("P5: seed %d: an extent: %q", seed, line)
		}
	}
	for _, line := range after[1:] {
		if f := strings.Fields(line); f[0] == "cap" {
			given[f[1]+" "+f[2]] = number(f[6])
		}
	}
	for _, line := range lines {
		f := strings.Fields(line)
		if f[0] == "map" && !envs[number(f[1])] {
			l.t.Fatalf("P5: seed %d: a page of another's: %q", seed, line)
		}
		if f[0] != "cap" || f[1] == "0" && f[2] == fmt.Sprint(slot) {
			continue
		}
		inside := f[3] == "1" && frames[number(f[4])] || f[3] == "2" && envs[number(f[4])]
		from, there := given[f[7]+" "+f[8]]
		if !envs[number(f[1])] || !inside && (!there || from&number(f[6]) != number(f[6])) {
			l.t.Fatalf("P5: seed %d: a capability that nobody gave: %q", seed, line)
		}
	}
}

// TestBurst: an image with a burst in one of its guarded parts is refused.
func TestBurst(t *testing.T) {
	for seed := range 60 {
		d := dice(seed)
		l := newTelling(t, "P6")
		slot := l.saved(&d)
		for range d.below(3) {
			l.must(fmt.Sprint("run 0 ", slot, d.picks()))
			l.must(fmt.Sprint("save ", slot, " next"))
		}
		fold := l.must("fold")
		l.same("the fold", fold[strings.Index(fold, "\n")+1:], l.tree(slot))
		extents := strings.Fields(l.must("where"))[1:]
		for range 25 {
			extent := number(extents[d.below(len(extents))])
			size := l.part(extent, 0, 76)
			// The parts: the header, and each section that has bytes.
			parts := [][2]int{{0, 76}}
			for i, at := 0, 76; i < 6; i++ {
				n := int(binary.LittleEndian.Uint32(size[20+8*i:]))
				if n > 0 {
					parts = append(parts, [2]int{at, n})
				}
				at += n
			}
			part := parts[d.below(len(parts))]
			bits := part[1] * 8
			start := d.below(bits)
			data := l.part(extent, part[0], part[1])
			turned, err := crc.Burst(data, start, uint32(1+2*d.below(1<<min(31, bits-start-1))))
			if err != api.OK {
				t.Fatalf("P6: Burst: %d", err)
			}
			l.edit(extent, part[0], turned)
			l.tells("fold -> no 5\nwake -> no 5\nsend -> no 5")
			l.edit(extent, part[0], data)
		}
		l.same("the fold", l.must("fold"), fold)
	}
}

func (l telling) part(extent, from, size int) []byte {
	return slices.Clone(l.medium(extent, from, size))
}

// swapCargo makes the packets in flight those of another cargo of the same length.
func (l telling) swapCargo(sent, other []byte) {
	l.t.Helper()
	from, code := ferry.NewSender(sent)
	to, code2 := ferry.NewSender(other)
	if code != api.OK || code2 != api.OK || len(sent) != len(other) {
		l.t.Fatalf("P26.1: no such cargos: %d, %d, %d and %d bytes", code, code2, len(sent), len(other))
	}
	was, is := from.Tick(), to.Tick()
	for n := range was {
		for at := range was[n] {
			if mask := was[n][at] ^ is[n][at]; mask != 0 {
				l.must(fmt.Sprint("spoil ", n, " ", at, " ", mask))
			}
		}
	}
}

// TestLandNoCargo: what has come whole may be no forest all the same; and a generation that there can't be.
func TestLandNoCargo(t *testing.T) {
	l := tells(t, "P26.1", saved+"send -> ok 2\ntake -> ok\ntick -> ok 2")
	f := forestOf(t, l.tree(0)+"\n")
	cargo, code := ferry.Load(f)
	if code != api.OK {
		t.Fatalf("P26.1: Load: %d", code)
	}
	junk := slices.Clone(cargo)
	junk[0]++
	l.swapCargo(cargo, junk)
	l.tells("pass 0 -> ok 1 2\npass 0 -> ok 2 2\nland -> no 200\nwhere -> ok 1/0\nlose 0\nlose 0")

	// Packed bytes of the same length that are no image.
	plain := 0
	var other []byte
	for len(other) != len(cargo) {
		plain++
		d := dice(plain)
		bytes := make([]byte, plain)
		for i := range bytes {
			bytes[i] = byte(d.below(256))
		}
		if other, code = squeeze.Pack(bytes); code != api.OK || plain > 200 {
			t.Fatalf("P26.1: Pack: %d", code)
		}
	}
	l.tells("take\nsend -> ok 2\ntick -> ok 2")
	l.swapCargo(cargo, other)
	l.tells("pass 0 -> ok 1 2\npass 0 -> ok 2 2\nland -> no 5\nwhere -> ok 1/0\nlose 0\nlose 0")

	// The greatest generation: nothing can be committed behind it.
	size := binary.LittleEndian.Uint32(l.medium(31, 128+9, 4))
	l.edit(31, 128, superblock(api.MaxGen, []int{int(size)}, []int{0}))
	l.tells("take\nsend -> ok 2\ntick -> ok 2\npass 0 -> ok 1 2\npass 0 -> ok 2 2\nclose\nopen 0 31 -> ok 4294967295\nland -> no 5\nsave 0 full -> no 2\nwhere -> ok 1/0")

	// Ahead of these: no store, and ahead of what the store refuses.
	l.tells("call 0 7 1 -> ok ..\nland -> no 5\nclose -> ok\nland -> no 91")
	if got := hex.EncodeToString(l.medium(31, 132, 4)); got != "ffffffff" {
		t.Errorf("P26.1: the superblock says %s", got)
	}
}

// TestBadLine: whatever the line does, nothing comes, or the sender's forest; with a fair end it comes.
func TestBadLine(t *testing.T) {
	for seed := range 40 {
		d := dice(seed)
		l := newTelling(t, "P10")
		slot := l.saved(&d)
		tree := l.tree(slot)
		l.must("send")
		l.tells("swap -> ok 1\ntake -> ok\nopen 0 31 -> ok 0")
		flight := 0
		for range 40 + d.below(200) {
			flight += l.weather(&d, flight)
			if d.one(9) {
				if got := l.do("land"); got != "no 91\n" {
					break
				}
			}
		}
		l.clear()
		for round := 0; ; round++ {
			n := l.first("tick")
			if n == 0 {
				break
			}
			for range 2 * n {
				l.must("pass 0")
			}
			if round > 90 {
				t.Fatalf("P10: a fair line of %d rounds does not end", round)
			}
		}
		l.must("land")
		fold := l.must("fold")
		l.same("what has landed", fold[strings.Index(fold, "\n")+1:], tree)
		l.same("the woken tree", l.tree(l.first("wake")), tree)
		l.tells("audit -> ok 0\nswap -> ok 0\naudit -> ok 0")
		l.same("the tree that was sent", l.tree(slot), tree)
	}
}

// weather lets one thing happen on the line; by how much the packets in flight become more.
func (l telling) weather(d *dice, flight int) int {
	l.t.Helper()
	if flight == 0 || d.one(5) && flight < 60 {
		return l.first("tick")
	}
	n := d.below(flight)
	switch d.below(6) {
	case 0:
		l.must(fmt.Sprint("lose ", n))
		return -1
	case 1:
		l.must(fmt.Sprint("copy ", n))
		return 1
	case 2:
		l.must(fmt.Sprint("spoil ", n, " ", d.below(15), " ", 1+d.below(255)))
		got := l.do(fmt.Sprint("pass ", n))
		l.same("a spoilt packet", got, "no 220\n")
		return -1
	}
	told := l.must(fmt.Sprint("pass ", n))
	if len(strings.Fields(told)) == 1 {
		return -1
	}
	return 0
}

// clear loses all that is in flight.
func (l telling) clear() {
	for l.do("lose 0") == "ok\n" {
	}
}
