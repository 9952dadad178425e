package image_test

import (
	"bytes"
	"encoding/hex"
	"errors"
	"strconv"
	"strings"
	"testing"

	"amber/api"
	"amber/crc"
	"amber/image"
)

var sentinels = []error{image.ErrShort, image.ErrMagic, image.ErrVersion, image.ErrHeader, image.ErrLength, image.ErrSum, image.ErrForm, image.ErrForest, image.ErrSize}

func TestFault(t *testing.T) {
	for i, err := range sentinels {
		for j, other := range sentinels {
			if errors.Is(err, other) != (i == j) || (err.Error() == other.Error()) != (i == j) {
				t.Errorf("P13.1: %q and %q are one", err, other)
			}
		}
		for section := -3; section <= 12; section++ {
			want := "section " + strconv.Itoa(section) + ": " + err.Error()
			if section == -1 {
				want = err.Error()
			}
			f := &image.Fault{Section: section, Err: err}
			if f.Error() != want || f.Unwrap() != err || !errors.Is(f, err) {
				t.Errorf("P13.1: %q, %v, want %q, %v", f.Error(), f.Unwrap(), want, err)
			}
		}
	}
}

// TestStrangeFault: nothing is said of its words, but it ends and does not panic.
func TestStrangeFault(t *testing.T) {
	f := &image.Fault{Section: 2}
	_ = f.Error()
	if f.Unwrap() != nil {
		t.Errorf("P13.1: Unwrap: %v", f.Unwrap())
	}
	f.Err = f
	_ = f.Error()
	f.Err = (*image.Fault)(nil)
	_ = f.Error()
	f.Err = api.ErrArg
	_ = f.Error()
	if f.Unwrap() != error(api.ErrArg) {
		t.Errorf("P13.1: Unwrap: %v", f.Unwrap())
	}
}

// bytesOf reads base sixteen, with blanks.
func bytesOf(t *testing.T, text string) []byte {
	t.Helper()
	b, err := hex.DecodeString(strings.ReplaceAll(text, " ", ""))
	if err != nil {
		t.Fatal(err)
	}
	return b
}

func TestSmallestAsBytes(t *testing.T) {
	section := bytesOf(t, "ff 00 01"+strings.Repeat(" 00", 47))
	sum := make([]byte, 4)
	put(sum, 0, crc.Sum(section))
	want := bytesOf(t, "41 4d 42 52 01 00 00 06 01 00 00 00 00 00 00 00 00 00 00 00 32 00 00 00")
	want = append(append(want, sum...), make([]byte, 40)...)
	want = append(want, sum...)
	put(sum, 0, crc.Sum(want))
	want = append(append(want, sum...), section...)
	if got := encoded(t, smallest()); !bytes.Equal(got, want) || len(got) != 126 {
		t.Errorf("P13.1: the smallest: % x, want % x", got, want)
	}
	im, err := image.Decode(want)
	if err != nil || !alike(im, smallest()) {
		t.Errorf("P13.2: %+v, %v", im, err)
	}
}

// richBody: the sections of rich, written by hand.
var richBody = []string{
	"ff 01 01 14131211 24232221 01000000 02000000 03000000 04000000 05000000 06000000 07000000 34333231 44434241 08 03 04" +
		"00 04 01 3e000000 00000000" + zeros(36) + "04 01 02" +
		"01 02 00 00000000 ffffffff" + zeros(36) + "02 00 01",
	"00 01 01 0f 01 0000 ffff  00 02 01 07 00 0000 ffff  00 03 02 0f 01 0100 ffff  00 2f 01 0f 01 0100 ffff" +
		"01 00 03 0f 00 0100 ffff  01 01 01 05 01 0000 0001  01 04 02 0c 00 0200 ffff  01 05 01 0b 01 0200 ffff" +
		"02 00 01 01 01 0000 0101  02 07 01 03 00 0000 0002  02 09 03 06 00 0100 0100  02 0a 02 03 01 0200 ffff",
	"00 00 01 01  00 0f 01 00  01 03 01 00  02 00 07 01  02 01 00 00",
	"0500000000000000 0000000000000000 3f  1817161514131211 2827262524232221 ff  0700000000000000 ffffffffffffff3f 00",
	"54535251" + zeros(120) + "64636261",
	"01 0807060504030201  03 0900000000000000  02 0900000000000000",
}

func zeros(n int) string { return strings.Repeat("00", n) }

func TestRichAsBytes(t *testing.T) {
	want := bytesOf(t, "41 4d 42 52 01 00 01 06 04030201 03030201 d4c3b2a1"+zeros(56))
	for i, text := range richBody {
		section := bytesOf(t, text)
		put(want, 20+8*i, uint32(len(section)))
		want = append(want, section...)
	}
	want = sealed(want)
	if got := encoded(t, rich()); !bytes.Equal(got, want) {
		t.Errorf("P13.1: the rich: % x, want % x", got, want)
	}
	im, err := image.Decode(want)
	if err != nil || !alike(im, rich()) {
		t.Errorf("P13.2: %+v, %v", im, err)
	}
}

func TestGreatest(t *testing.T) {
	b := encoded(t, greatest())
	if want := 76 + 16*50 + 768*9 + 256*4 + 64*17 + 64*128 + 704*9; len(b) != want || len(b) > api.MaxImage {
		t.Errorf("P13.1: the greatest has %d bytes, want %d", len(b), want)
	}
	im, err := image.Decode(b)
	if err != nil || !alike(im, greatest()) {
		t.Errorf("P13.2: the greatest: %v", err)
	}
}

func TestIdent(t *testing.T) {
	b := encoded(t, rich())
	ident := crc.Sum(b[:72])
	if ident == 0 || uint32(number(b, 72)) != ident {
		t.Fatalf("P13.1: the ident %08x, its bytes % x", ident, b[72:76])
	}
	for _, c := range []struct {
		what string
		data []byte
		want uint32
	}{
		{"the image", b, ident},
		{"the header alone", b[:76], ident},
		{"the header and other bytes", append(bytes.Clone(b[:76]), 1, 2, 3), ident},
		{"the header and too many bytes", append(bytes.Clone(b[:76]), make([]byte, api.MaxImage)...), ident},
		{"a spoilt body", edited(b, 90, b[90]^1), ident},
		{"75 bytes", b[:75], 0},
		{"one byte", b[:1], 0},
		{"no bytes", nil, 0},
		{"a spoilt magic", edited(b, 0, 'a'), 0},
		{"another magic, sealed", headed(edited(b, 3, 'S')), 0},
		{"76 bytes 0", make([]byte, 76), 0},
		{"a spoilt sum", edited(b, 72, b[72]^1), 0},
		{"a spoilt last byte of the sum", edited(b, 75, b[75]^0x80), 0},
		{"a spoilt byte 71", edited(b, 71, b[71]^1), 0},
	} {
		if got := image.Ident(c.data); got != c.want {
			t.Errorf("P13.1: Ident of %s: %08x, want %08x", c.what, got, c.want)
		}
	}
	for at := 4; at < 72; at++ { // nothing else is looked at
		odd := headed(edited(b, at, b[at]^0x5a))
		if got := image.Ident(odd); got != crc.Sum(odd[:72]) {
			t.Errorf("P13.1: Ident with byte %d changed: %08x, want %08x", at, got, crc.Sum(odd[:72]))
		}
	}
}

// TestIdentTellsImages: images that differ in anything have another ident.
func TestIdentTellsImages(t *testing.T) {
	seen := map[uint32]int{}
	for gen := 1; gen <= 300; gen++ {
		im := rich()
		im.Gen, im.Prev = gen+1, gen
		seen[image.Ident(encoded(t, im))]++
	}
	im := rich()
	im.Forest.Pages[0][5] = 1
	seen[image.Ident(encoded(t, im))]++
	im.PrevIdent = 1
	seen[image.Ident(encoded(t, im))]++
	if len(seen) != 302 {
		t.Errorf("P13.1: %d idents of 302 images", len(seen))
	}
}
