package store_test

import (
	"fmt"
	"slices"
	"testing"

	"amber/api"
	"amber/crc"
	"amber/store"
)

// parsed: the chapter's table and its rules, byte by byte; generation 0: it is not valid.
func parsed(home, sector int, b []byte) (int, []entry) {
	word := func(at int) int { return int(b[at]) + int(b[at+1])<<8 + int(b[at+2])<<16 + int(b[at+3])<<24 }
	gen, n := word(4), int(b[8])
	if string(b[:4]) != "AMBS" || word(124) != int(crc.Sum(b[:124])) || gen < 1 || gen%2 != sector || n < 1 || n > 5 {
		return 0, nil
	}
	var images []entry
	seen := []int{home}
	at := 9
	for range n {
		im := entry{length: word(at)}
		if im.length < 1 || im.length > 32768 {
			return 0, nil
		}
		for j, x := range b[at+4 : at+12] {
			needed := j*4096 < im.length
			switch {
			case !needed && x == 0xff:
			case needed && x < 32 && !slices.Contains(seen, int(x)):
				im.extents = append(im.extents, int(x))
				seen = append(seen, int(x))
			default:
				return 0, nil
			}
		}
		images = append(images, im)
		at += 12
	}
	if slices.ContainsFunc(b[at:124], func(x byte) bool { return x != 0 }) {
		return 0, nil
	}
	return gen, images
}

// counts: of two sectors.
func counts(home int, sectors [2][]byte) (int, []entry) {
	gen, images := parsed(home, 0, sectors[0])
	if other, more := parsed(home, 1, sectors[1]); other > gen {
		return other, more
	}
	return gen, images
}

// bench: one machine on which superblocks are laid by an adversary and opened.
type bench struct {
	machine
	home int
}

// told: what Open finds behind these two sectors.
func (b bench) told(t *testing.T, what string, zero, one []byte) (int, [][]int) {
	t.Helper()
	b.d.Edit(b.home*32, 0, zero)
	b.d.Edit(b.home*32+1, 0, one)
	s, code := store.Open(b.k, 0, b.home)
	if code != api.OK {
		t.Fatalf("P16.1: %s: Open: %d", what, code)
	}
	gen, extents := s.Gen(), s.Extents()
	l, code := s.Chain()
	var lengths []int
	for _, im := range l {
		lengths = append(lengths, len(im))
	}
	wantGen, images := counts(b.home, [2][]byte{zero, one})
	var wantExtents [][]int
	var wantLengths []int
	for _, im := range images {
		wantExtents = append(wantExtents, im.extents)
		wantLengths = append(wantLengths, im.length)
	}
	if code != api.OK || gen != wantGen || fmt.Sprint(extents, lengths) != fmt.Sprint(wantExtents, wantLengths) {
		t.Fatalf("P16.1: %s: % x, % x: Gen %d, Extents %v, lengths %v, %d, want %d, %v, %v", what, zero, one, gen, extents, lengths, code, wantGen, wantExtents, wantLengths)
	}
	want := slices.Concat([][]int{{b.home}}, wantExtents)
	if claimed := b.k.State().Extents; len(claimed) != len(slices.Concat(want...)) {
		t.Fatalf("P16.1: %s: claimed are %v, want %v", what, claimed, want)
	}
	is(t, "P16.1: Close", s.Close(), api.OK)
	return gen, extents
}

func (b bench) is(t *testing.T, what string, zero, one []byte, gen int, extents string) {
	t.Helper()
	if got, l := b.told(t, what, zero, one); got != gen || fmt.Sprint(l) != extents {
		t.Errorf("P16.1: %s: Gen %d, Extents %v, want %d, %s", what, got, l, gen, extents)
	}
}

func upTo(from, to int) []int {
	var l []int
	for n := from; n <= to; n++ {
		l = append(l, n)
	}
	return l
}

func TestWhichCounts(t *testing.T) {
	none := make([]byte, 128)
	a, b := entry{5, []int{9}}, entry{4097, []int{3, 1}}
	spoilt := func(s []byte) []byte {
		s = slices.Clone(s)
		s[127]++
		return s
	}
	for _, home := range []int{0, 17, 31} {
		x := bench{newMachine(), home}
		x.is(t, "nothing", none, none, 0, "[]")
		x.is(t, "generation 2", super(2, a), none, 2, "[[9]]")
		x.is(t, "generation 1", none, super(1, b), 1, "[[3 1]]")
		x.is(t, "2 and 3", super(2, a), super(3, b), 3, "[[3 1]]")
		x.is(t, "4 and 3", super(4, a), super(3, b), 4, "[[9]]")
		x.is(t, "2 and 2001", super(2, a), super(2001, b), 2001, "[[3 1]]")
		x.is(t, "the greatest two", super(api.MaxGen-1, a), super(api.MaxGen, b), api.MaxGen, "[[3 1]]")
		x.is(t, "far apart", super(1<<31, a), super(1<<31-1, b), 1<<31, "[[9]]")
		x.is(t, "far apart", super(2, a), super(1<<31+1, b), 1<<31+1, "[[3 1]]")
		x.is(t, "the greater one spoilt", super(2, a), spoilt(super(3, b)), 2, "[[9]]")
		x.is(t, "the smaller one spoilt", spoilt(super(2, a)), super(3, b), 3, "[[3 1]]")
		x.is(t, "both spoilt", spoilt(super(2, a)), spoilt(super(3, b)), 0, "[]")
		x.is(t, "3 in sector 0", super(3, a), none, 0, "[]")
		x.is(t, "3 in sector 0, 1 in sector 1", super(3, a), super(1, b), 1, "[[3 1]]")
		x.is(t, "turned round", super(3, a), super(2, b), 0, "[]")
		x.is(t, "generation 0", super(0, a), none, 0, "[]")
		x.is(t, "five images", none, super(7, a, b, entry{1, []int{5}}, entry{2, []int{6}}, entry{4096, []int{7}}), 7, "[[9] [3 1] [5] [6] [7]]")
		x.is(t, "as they come", super(8, entry{12289, []int{30, 2, 29, 1}}), none, 8, "[[30 2 29 1]]")
	}
}

// TestAllExtents: a superblock may name all but home.
func TestAllExtents(t *testing.T) {
	x := bench{newMachine(), 31}
	full := super(1, entry{32768, upTo(0, 7)}, entry{32767, upTo(8, 15)}, entry{28673, upTo(16, 23)}, entry{28672, upTo(24, 30)})
	x.is(t, "all but home", make([]byte, 128), full, 1, "[[0 1 2 3 4 5 6 7] [8 9 10 11 12 13 14 15] [16 17 18 19 20 21 22 23] [24 25 26 27 28 29 30]]")
	bench{newMachine(), 30}.is(t, "home among them", make([]byte, 128), full, 0, "[]")
}

// TestNotValid: one thing at a time is wrong, and the sum is right.
func TestNotValid(t *testing.T) {
	good := entry{5, []int{9}}
	with := func(b []byte, at int, bytes ...byte) []byte {
		copy(b[at:], bytes)
		return summed(b)
	}
	for _, c := range []struct {
		what string
		b    []byte
		gen  int
	}{
		{"a good one", super(1, good), 1},
		{"another magic", with(super(1, good), 0, 'a'), 0},
		{"another magic's end", with(super(1, good), 3, 'R'), 0},
		{"no images", super(1), 0},
		{"no images, one told", with(super(1), 8, 1), 0},
		{"one image, none told", with(super(1, good), 8, 0), 0},
		{"two images, one told", with(super(1, good, entry{5, []int{10}}), 8, 1), 0},
		{"six images", with(super(1, good, entry{1, []int{1}}, entry{1, []int{2}}, entry{1, []int{3}}, entry{1, []int{4}}), 8, 6), 0},
		{"six images, all there", super(1, good, entry{1, []int{1}}, entry{1, []int{2}}, entry{1, []int{3}}, entry{1, []int{4}}, entry{1, []int{5}}), 0},
		{"255 images", with(super(1, good), 8, 255), 0},
		{"length 0, no extent", super(1, entry{0, nil}), 0},
		{"length 0, one extent", super(1, entry{0, []int{9}}), 0},
		{"length 1", super(1, entry{1, []int{9}}), 1},
		{"length 1, no extent", super(1, entry{1, nil}), 0},
		{"length 4096", super(1, entry{4096, []int{9}}), 1},
		{"length 4096, two extents", super(1, entry{4096, []int{9, 10}}), 0},
		{"length 4097, one extent", super(1, entry{4097, []int{9}}), 0},
		{"length 4097", super(1, entry{4097, []int{9, 10}}), 1},
		{"length 28672, eight extents", super(1, entry{28672, upTo(1, 8)}), 0},
		{"length 28673", super(1, entry{28673, upTo(1, 8)}), 1},
		{"length 32768", super(1, entry{32768, upTo(1, 8)}), 1},
		{"length 32768, seven extents", super(1, entry{32768, upTo(1, 7)}), 0},
		{"length 32769", super(1, entry{32769, upTo(1, 8)}), 0},
		{"length 1<<31", super(1, entry{1 << 31, upTo(1, 8)}), 0},
		{"length 1<<32 - 1", super(1, entry{1<<32 - 1, upTo(1, 8)}), 0},
		{"the second's length is 0", super(1, good, entry{0, nil}), 0},
		{"the second's length is 32769", super(1, good, entry{32769, upTo(1, 8)}), 0},
		{"extent 31", super(1, entry{5, []int{31}}), 1},
		{"extent 32", super(1, entry{5, []int{32}}), 0},
		{"extent 254", super(1, entry{5, []int{254}}), 0},
		{"a hole", super(1, entry{4097, []int{255, 9}}), 0},
		{"home", super(1, entry{5, []int{20}}), 0},
		{"home, of the second", super(1, good, entry{5, []int{20}}), 0},
		{"home at the last place", super(1, entry{32768, []int{1, 2, 3, 4, 5, 6, 7, 20}}), 0},
		{"one extent twice in an image", super(1, entry{4097, []int{9, 9}}), 0},
		{"one extent in two images", super(1, good, entry{5, []int{9}}), 0},
		{"one extent in the first and the last", super(1, good, entry{5, []int{1}}, entry{5, []int{2}}, entry{5, []int{3}}, entry{4097, []int{5, 9}}), 0},
		{"a byte behind the first image", with(super(1, good), 21, 1), 0},
		{"ff behind the first image", with(super(1, good), 21, 255), 0},
		{"a byte at the end", with(super(1, good), 123, 1), 0},
		{"a byte behind five images", with(super(1, good, entry{1, []int{1}}, entry{1, []int{2}}, entry{1, []int{3}}, entry{1, []int{5}}), 69, 1), 0},
		{"all 0, summed", summed(make([]byte, 128)), 0},
		{"all ff, summed", summed(all(128, 255)), 0},
	} {
		x := bench{newMachine(), 20}
		if gen, _ := x.told(t, c.what, make([]byte, 128), c.b); gen != c.gen {
			t.Errorf("P16.1: %s: Gen %d, want %d", c.what, gen, c.gen)
		}
	}
}

// TestEachByte: each byte of a superblock is turned into each other one, with its old sum and with a right one.
func TestEachByte(t *testing.T) {
	none := make([]byte, 128)
	valid := 0
	for i, base := range [][]byte{super(1, entry{5, []int{9}}), super(0x01020303, entry{8190, []int{30, 0}}, entry{1, []int{1}}, entry{32768, upTo(10, 17)}, entry{300, []int{2}}, entry{4096, []int{3}})} {
		x := bench{newMachine(), 31}
		for at := range 128 {
			for v := range 256 {
				b := slices.Clone(base)
				b[at] = byte(v)
				what := fmt.Sprintf("superblock %d, byte %d is %d", i, at, v)
				if gen, _ := x.told(t, what, none, b); (gen != 0) != (b[at] == base[at]) {
					t.Fatalf("P16.1: %s, with the old sum: Gen %d", what, gen)
				}
				if gen, _ := x.told(t, what+", summed", none, summed(b)); gen != 0 {
					valid++
				}
			}
		}
	}
	if valid < 1000 {
		t.Errorf("P16.1: only %d of the changed ones are valid", valid)
	}
}

// TestOddSuperblocks: by dice, held against the chapter's rules.
func TestOddSuperblocks(t *testing.T) {
	valid := 0
	for seed := range 4000 {
		d := dice(seed)
		x := bench{newMachine(), d.below(32)}
		var sectors [2][]byte
		for i := range sectors {
			sectors[i] = d.superblock(2*d.of(0, 1, 2, 50, 1<<30) + i)
			if d.below(4) == 0 {
				sectors[i][d.below(128)] = byte(d.of(0, 1, 5, 31, 32, 255))
			}
			if d.below(3) == 0 {
				sectors[i] = summed(sectors[i])
			}
		}
		if gen, _ := x.told(t, fmt.Sprint("seed ", seed), sectors[0], sectors[1]); gen > 0 {
			valid++
		}
	}
	if valid < 1000 || valid > 3500 {
		t.Errorf("P16.1: %d of 4000 are valid", valid)
	}
}

// superblock: mostly a good one.
func (d *dice) superblock(gen int) []byte {
	free := upTo(0, 31)
	for i := range free {
		j := d.below(32)
		free[i], free[j] = free[j], free[i]
	}
	var images []entry
	for range 1 + d.below(5) {
		im := entry{length: d.length()}
		need := min((im.length+4095)/4096, len(free))
		im.extents, free = free[:need], free[need:]
		images = append(images, im)
	}
	if d.below(10) == 0 {
		images[0].length += d.of(-1, 1, 4096)
	}
	return super(gen, images...)
}

func (d *dice) length() int {
	return d.of(1, 1, 2, 127, 128, 129, 300, 4095, 4096, 4097, 8192, 8193, 12000, 32767, 32768, 1+d.below(32768))
}
