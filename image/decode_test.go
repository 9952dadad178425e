package image_test

import (
	"bytes"
	"slices"
	"testing"

	"amber/api"
	"amber/crc"
	"amber/image"
)

// decodes holds Decode against the model, and what it takes against Encode.
func decodes(t *testing.T, what string, data []byte) {
	t.Helper()
	kept := bytes.Clone(data)
	want, sentinel, section := decodeModel(data)
	im, err := image.Decode(data)
	told(t, "P13.1: Decode of "+what, err, sentinel, section)
	if !alike(im, want) {
		t.Errorf("P13.1: Decode of %s: %+v, want %+v", what, im, want)
	}
	if err != nil && !bytes.Equal(data, kept) {
		t.Errorf("P13.1: Decode of %s changed its bytes", what)
	}
	if err != nil {
		return
	}
	if b, err := image.Encode(im); err != nil || !bytes.Equal(b, kept) {
		t.Errorf("P13.2: Encode of what Decode took of %s: % x, %v, want % x", what, b, err, kept)
	}
	if err := image.Check(im); err != nil {
		t.Errorf("P13.5: Decode takes %s, but Check answers %v", what, err)
	}
}

func TestDecodeExamples(t *testing.T) {
	b := encoded(t, smallest())
	for _, c := range []struct {
		what     string
		data     []byte
		sentinel error
		section  int
	}{
		{"the smallest", b, nil, 0},
		{"it without the last byte", b[:125], image.ErrLength, 0},
		{"its first 75 bytes", b[:75], image.ErrShort, 0},
		{"its first 76 bytes", b[:76], image.ErrLength, 0},
		{"no bytes", nil, image.ErrShort, 0},
		{"byte 125 changed", edited(b, 125, 1), image.ErrSum, 1},
		{"version 2", edited(b, 4, 2), image.ErrHeader, 0},
		{"version 2, headed", headed(edited(b, 4, 2)), image.ErrVersion, 0},
		{"version 257, headed", headed(edited(b, 5, 1)), image.ErrVersion, 0},
		{"version 0, headed", headed(edited(b, 4, 0)), image.ErrVersion, 0},
		{"Frozen 2", sealed(edited(b, 78, 2)), image.ErrForm, 1},
		{"Frozen 0", sealed(edited(b, 78, 0)), image.ErrForest, 1},
		{"32769 bytes", make([]byte, 32769), image.ErrSize, -1},
		{"32768 bytes", make([]byte, 32768), image.ErrMagic, 0},
		{"the smallest and 32643 bytes more", append(bytes.Clone(b), make([]byte, 32643)...), image.ErrSize, -1},
		{"the smallest and 32642 bytes more", append(bytes.Clone(b), make([]byte, 32642)...), image.ErrLength, 0},
	} {
		im, err := image.Decode(c.data)
		told(t, "P13.1: Decode of "+c.what, err, c.sentinel, c.section)
		if c.sentinel != nil && !alike(im, api.Image{}) {
			t.Errorf("P13.1: Decode of %s tells %+v", c.what, im)
		}
		decodes(t, c.what, c.data)
	}
	_, err := image.Decode(make([]byte, 32769))
	if err == nil || err.Error() != image.ErrSize.Error() {
		t.Errorf("P13.1: the words of 32769 bytes: %v", err)
	}
	_, err = image.Decode(edited(b, 125, 1))
	if err == nil || err.Error() != "section 1: "+image.ErrSum.Error() {
		t.Errorf("P13.1: the words of a spoilt section 1: %v", err)
	}
}

// raw: an image's bytes in parts, to be spoilt one by one. Sums and lengths are told right, but for what stands here.
type raw struct {
	head    []byte // the bytes 0 to 19
	bodies  [6][]byte
	longer  [6]int
	sums    [6]uint32
	total   uint32
	guard   uint32
	behind  int
	cutTo75 bool
}

func rawOf(b []byte) raw {
	r := raw{head: bytes.Clone(b[:20])}
	for s := range r.bodies {
		begin, end := bounds(b, s+1)
		r.bodies[s] = bytes.Clone(b[begin:end])
	}
	return r
}

func (r raw) bytes() []byte {
	out := append(bytes.Clone(r.head), make([]byte, 56)...)
	for s, body := range r.bodies {
		put(out, 20+8*s, uint32(len(body)+r.longer[s]))
		put(out, 24+8*s, crc.Sum(body)^r.sums[s])
		out = append(out, body...)
	}
	put(out, 68, crc.Sum(out[76:])^r.total)
	put(out, 72, crc.Sum(out[:72])^r.guard)
	out = append(out, make([]byte, r.behind)...)
	if r.cutTo75 {
		return out[:75]
	}
	return out
}

// spoilt: a way to break just one of Decode's rules.
type spoilt struct {
	what     string
	change   func(*raw)
	sentinel error
	section  int
}

// waysToSpoil are in the order of Decode's rules.
func waysToSpoil() []spoilt {
	ways := []spoilt{
		{"too long", func(r *raw) { r.behind = 32769 }, image.ErrSize, -1},
		{"cut", func(r *raw) { r.cutTo75 = true }, image.ErrShort, 0},
		{"magic", func(r *raw) { r.head[1] = 'm' }, image.ErrMagic, 0},
		{"header's sum", func(r *raw) { r.guard = 1 << 31 }, image.ErrHeader, 0},
		{"version", func(r *raw) { r.head[4] = 3 }, image.ErrVersion, 0},
		{"kind", func(r *raw) { r.head[6] = 2 }, image.ErrForm, 0},
		{"number of sections", func(r *raw) { r.head[7] = 7 }, image.ErrForm, 0},
		{"bytes behind", func(r *raw) { r.behind = max(r.behind, 1) }, image.ErrLength, 0},
		{"a length", func(r *raw) { r.longer[5] = 9 }, image.ErrLength, 0},
	}
	for s := range 6 {
		ways = append(ways, spoilt{"a byte too many", func(r *raw) { r.bodies[s] = append(r.bodies[s], 0) }, image.ErrLength, s + 1})
	}
	for s := range 6 {
		ways = append(ways, spoilt{"a section's sum", func(r *raw) { r.sums[s] = 1 }, image.ErrSum, s + 1})
	}
	ways = append(ways, spoilt{"the total", func(r *raw) { r.total = 1 << 16 }, image.ErrSum, 0})
	for _, c := range []struct{ section, at, v int }{
		{1, 2, 2}, {1, 52, 255}, {1, 102, 128}, {2, 4, 2}, {2, 13, 255}, {2, 7, 0}, {2, 8, 0}, {2, 17, 254}, {2, 52, 255}, {2, 53, 255}, {3, 3, 2}, {3, 7, 255}, {4, 7, 64}, {4, 7, 128}, {4, 15, 64}, {4, 49, 255}, {6, 8, 64}, {6, 26, 128},
	} {
		ways = append(ways, spoilt{"a record's form", func(r *raw) { r.bodies[c.section-1][c.at] = byte(c.v) }, image.ErrForm, c.section})
	}
	for _, c := range []struct{ section, at, v, told int }{
		{0, 8, 9, 0}, {0, 6, 0, 0}, {4, 0, 7, 4}, {4, 16, 64, 4}, {4, 16, 255, 5}, {1, 50, 1, 1}, {6, 1 + 9, 0, 6}, {6, 0, 4, 6}, {2, 1, 2, 2}, {2, 3, 16, 2}, {3, 1, 16, 3}, {1, 48, 1, 1},
	} {
		ways = append(ways, spoilt{"no forest", func(r *raw) {
			if c.section == 0 {
				r.head[c.at] = byte(c.v)
			} else {
				r.bodies[c.section-1][c.at] = byte(c.v)
			}
		}, image.ErrForest, c.told})
	}
	return ways
}

func TestOrderOfRefusals(t *testing.T) {
	b := encoded(t, rich())
	if !bytes.Equal(rawOf(b).bytes(), b) {
		t.Fatal("the image in parts is another")
	}
	ways := waysToSpoil()
	for i, first := range ways {
		r := rawOf(b)
		first.change(&r)
		im, err := image.Decode(r.bytes())
		told(t, "P13.1: Decode of an image with another "+first.what, err, first.sentinel, first.section)
		if !alike(im, api.Image{}) {
			t.Errorf("P13.1: Decode of an image with another %s tells %+v", first.what, im)
		}
		decodes(t, first.what, r.bytes())
		for _, second := range ways[i+1:] {
			r := rawOf(b)
			second.change(&r)
			first.change(&r)
			if first.section == -1 && second.what == "cut" {
				continue // no bytes are too many and too few
			}
			if second.sentinel != first.sentinel || second.sentinel != image.ErrForest && second.section != first.section { // two faults of one kind may mend one another
				_, err := image.Decode(r.bytes())
				told(t, "P13.1: Decode with another "+first.what+" ahead of "+second.what, err, first.sentinel, first.section)
			}
			decodes(t, first.what+" and "+second.what, r.bytes())
		}
	}
}

// telling: byte values among which every bound of a field lies.
func telling(v int) bool {
	return v <= 17 || v >= 30 && v <= 34 || v >= 46 && v <= 49 || v >= 62 && v <= 66 || v == 127 || v == 128 || v >= 253
}

// TestEveryByte: every byte of two images turned into others, its sums made right: what is taken is another image.
func TestEveryByte(t *testing.T) {
	for _, im := range []api.Image{smallest(), rich()} {
		b := encoded(t, im)
		for at := range b {
			for v := range 256 {
				if !telling(v) && len(b) > 126 {
					continue
				}
				odd := edited(b, at, byte(v))
				if at < 72 {
					decodes(t, "an edited header", headed(odd))
				} else {
					decodes(t, "an edited image", sealed(odd))
				}
			}
		}
	}
}

// TestDecodeOfOdds: images by dice, spoilt in a few places, and sealed again in part or whole.
func TestDecodeOfOdds(t *testing.T) {
	for seed := range 3000 {
		d := dice(seed)
		b := encoded(t, grown(&d))
		for range 1 + d.below(3) {
			b = spoiltBy(&d, b)
		}
		if len(b) >= 76 {
			switch d.below(5) {
			case 0:
				b = headed(b)
			case 1, 2, 3:
				b = sealed(b)
			}
		}
		decodes(t, "an odd image", b)
		if t.Failed() {
			t.Fatalf("P13.1: seed %d", seed)
		}
	}
}

func spoiltBy(d *dice, b []byte) []byte {
	if len(b) < 77 {
		return b
	}
	at := 76 + d.below(len(b)-76)
	few := []byte{0, 1, 2, 3, 4, 8, 15, 16, 47, 48, 63, 64, 255, byte(d.below(256))}
	switch d.below(12) {
	case 0:
		return b[:d.below(len(b))]
	case 1:
		return append(bytes.Clone(b), make([]byte, 1+d.below(3))...)
	case 2:
		return edited(b, d.below(20), few[d.below(len(few))])
	case 3: // a record more, or less, of some section
		s := d.below(6)
		begin, end := bounds(b, s+1)
		if end > len(b) || end-begin < sizes[s+1] {
			return b
		}
		b = slices.Delete(bytes.Clone(b), begin, begin+sizes[s+1])
		put(b, 20+8*s, uint32(end-begin-sizes[s+1]))
		return b
	case 4:
		return edited(b, 20+8*d.below(6), few[d.below(len(few))])
	}
	return edited(b, at, few[d.below(len(few))])
}

// TestAnyBytes: byte strings that never were an image.
func TestAnyBytes(t *testing.T) {
	for seed := range 2000 {
		d := dice(seed)
		b := make([]byte, d.below(400))
		for i := range b {
			b[i] = byte(d.below(256))
		}
		copy(b, "AMBR\x01\x00\x01\x06"[:d.below(9)])
		decodes(t, "any bytes", b)
		if len(b) < 76 {
			continue
		}
		decodes(t, "any bytes behind a header", headed(b))
		for s := range 6 {
			put(b, 20+8*s, uint32(d.below(4)*sizes[s+1]))
		}
		decodes(t, "any bytes with lengths", sealed(b))
		_, end := bounds(b, 6)
		b = append(b, make([]byte, max(end-len(b), 0))...)[:end]
		decodes(t, "any bytes of the right length", sealed(b))
		if got, want := image.Ident(b), uint32(0); got != want {
			t.Errorf("P13.1: Ident of bytes with a wrong sum: %08x", got)
		}
	}
}

// TestGreatLengths: lengths that together come to the right one only if they are wrapped round.
func TestGreatLengths(t *testing.T) {
	b := encoded(t, rich())
	for _, c := range [][2]uint32{{1 << 31, 1 << 31}, {0xffffffff, 1}, {0x80000000, 0x7fffffff}} {
		for s := range 5 {
			odd := bytes.Clone(b)
			put(odd, 20+8*s, uint32(number(b, 20+8*s))+c[0])
			put(odd, 28+8*s, uint32(number(b, 28+8*s))+c[1])
			if _, end := bounds(odd, 6); end == len(odd) {
				continue
			}
			_, err := image.Decode(headed(odd))
			told(t, "P13.1: Decode with great lengths", err, image.ErrLength, 0)
		}
	}
}
