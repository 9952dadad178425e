package squeeze_test

import (
	"bytes"
	"slices"
	"testing"

	"amber/api"
	"amber/squeeze"
)

// roomy: the same bytes, with spare room behind them that is full of marks.
func roomy(b []byte) []byte {
	room := append(slices.Clone(b), bytes.Repeat([]byte{0xA5}, 40)...)
	return room[:len(b)]
}

// kept tells whether bytes, made by roomy, and the room behind them are what they were.
func kept(b, was []byte) bool {
	room := b[:len(was)+40]
	return bytes.Equal(room[:len(was)], was) && bytes.Equal(room[len(was):], bytes.Repeat([]byte{0xA5}, 40))
}

// fill writes over bytes and the spare room behind them.
func fill(b []byte) {
	b = b[:cap(b)]
	for i := range b {
		b[i] = 0x5A
	}
}

func TestNothingIsSharedByPack(t *testing.T) {
	for _, b := range append(samples(10), nil, []byte("a"), []byte("abc")) {
		given := roomy(b)
		p, _ := squeeze.Pack(given)
		if !kept(given, b) {
			t.Fatalf("P20.4: Pack changes what it is given, % x ..", first(b))
		}
		want := slices.Clone(p)
		other, _ := squeeze.Pack(given)
		fill(p)
		if !kept(given, b) || !bytes.Equal(other, want) {
			t.Fatalf("P20.4: what Pack tells is not new memory, % x ..", first(b))
		}
		fill(given)
		if again, _ := squeeze.Pack(b); !bytes.Equal(again, want) || !bytes.Equal(other, want) {
			t.Fatalf("P20.4: Pack keeps what it is given, % x ..", first(b))
		}
	}
}

func TestNothingIsSharedByUnpack(t *testing.T) {
	for _, b := range append(samples(10), nil, []byte("a"), []byte("abc")) {
		p := rulePack(b)
		given := roomy(p)
		plain, _ := squeeze.Unpack(given)
		squeeze.Size(given)
		squeeze.Tokens(given)
		if !kept(given, p) {
			t.Fatalf("P20.4: what is handed in is changed, % x ..", first(p))
		}
		want := slices.Clone(plain)
		other, _ := squeeze.Unpack(given)
		fill(plain)
		if !kept(given, p) || !bytes.Equal(other, want) {
			t.Fatalf("P20.4: what Unpack tells is not new memory, % x ..", first(p))
		}
		fill(given)
		if again, _ := squeeze.Unpack(p); !bytes.Equal(again, want) || !bytes.Equal(other, want) {
			t.Fatalf("P20.4: Unpack keeps what it is given, % x ..", first(p))
		}
	}
}

func TestNilAndEmpty(t *testing.T) {
	for _, b := range [][]byte{nil, {}} {
		if p, e := squeeze.Pack(b); !bytes.Equal(p, []byte{0, 0, 0, 0}) || e != api.OK {
			t.Errorf("P20.4: Pack of no bytes: % x, %d", p, e)
		}
		if p, e := squeeze.Unpack(b); p != nil || e != api.ErrShort {
			t.Errorf("P20.4: Unpack of no bytes: % x, %d", p, e)
		}
	}
}

// great: api.MaxPlain bytes of many forms, those among them that give a search for matches most to do.
func great() map[string][]byte {
	d := dice(5)
	forms := map[string][]byte{
		"zeros":    make([]byte, api.MaxPlain),
		"new":      noFourTwice(api.MaxPlain),
		"bits":     d.bytes(api.MaxPlain, 2),
		"any":      d.bytes(api.MaxPlain, 256),
		"patched":  d.patched(api.MaxPlain),
		"pages":    d.pages(api.MaxPlain / api.PageBytes),
		"repeated": slices.Repeat(d.bytes(128, 256), api.MaxPlain/128),
	}
	broken := make([]byte, api.MaxPlain)
	for i := 0; i < len(broken); i += 1 + d.below(250) {
		broken[i] = byte(d.below(3))
	}
	forms["broken"] = broken
	fours := make([]byte, api.MaxPlain)
	for i := 4; i < len(fours); i += 6 {
		fours[i-1], fours[i] = byte(d.below(256)), byte(d.below(256))
	}
	forms["fours"] = fours
	word, next := []byte{0}, []byte{0, 1}
	for len(next) < api.MaxPlain {
		word, next = next, slices.Concat(next, word)
	}
	forms["fibonacci"] = next[:api.MaxPlain]
	return forms
}

func forthAndBack(t *testing.T, name string, b []byte) {
	t.Helper()
	p, e := squeeze.Pack(b)
	if e != api.OK {
		t.Fatalf("P20.5: %s: Pack of %d bytes: %d", name, len(b), e)
	}
	if back, e := squeeze.Unpack(p); !bytes.Equal(back, b) || e != api.OK {
		t.Fatalf("P20.5: %s: Unpack(Pack(% x ..)) = % x .., %d", name, first(b), first(back), e)
	}
	if n, e := squeeze.Size(p); n != len(b) || e != api.OK {
		t.Errorf("P20.3: %s: Size %d, %d, want %d", name, n, e, len(b))
	}
	if n, e := squeeze.Tokens(p); n != len(piecesOf(p)) || e != api.OK {
		t.Errorf("P20.3: %s: Tokens %d, %d, want %d", name, n, e, len(piecesOf(p)))
	}
	if n := len(b); len(p) > 4+n+(n+127)/128 {
		t.Errorf("P20.6: %s: %d bytes become %d", name, n, len(p))
	}
}

// piecesOf: the tokens of what Pack made.
func piecesOf(p []byte) []piece {
	var pieces []piece
	for at := 4; at < len(p); {
		if t := int(p[at]); t < 128 {
			pieces = append(pieces, piece{run: p[at+1 : at+t+2]})
			at += t + 2
		} else {
			pieces = append(pieces, piece{length: t - 124, distance: int(p[at+1]) + 256*int(p[at+2]) + 1})
			at += 3
		}
	}
	return pieces
}

func TestForthAndBack(t *testing.T) {
	for _, b := range samples(200) {
		forthAndBack(t, "a sample", b)
	}
	for n := range 9 {
		all(n, 4, func(b []byte) { forthAndBack(t, "a short one", b) })
	}
	for name, b := range great() {
		forthAndBack(t, name, b)
	}
}

// Every text that Unpack takes is what Pack makes of its plain bytes, whoever wrote it.
func TestBackAndForth(t *testing.T) {
	taken := 0
	for seed := range 4000 {
		d := dice(seed)
		b := d.patched(1 + d.below(30))
		p := lay(len(b), otherPieces(&d, b))
		if d.below(3) == 0 {
			p[d.below(len(p))] = byte(d.below(256))
		}
		plain, e := squeeze.Unpack(p)
		if e != api.OK {
			continue
		}
		taken++
		if again, e := squeeze.Pack(plain); !bytes.Equal(again, p) || e != api.OK {
			t.Errorf("P20.5: Pack(Unpack(% x)) = % x, %d", p, again, e)
		}
	}
	if taken < 100 {
		t.Errorf("P20.5: only %d texts are taken", taken)
	}
}

// Where nothing can be copied the packed text is as long as one may be.
func TestTheMostBytes(t *testing.T) {
	for _, n := range []int{0, 1, 2, 127, 128, 129, 255, 256, 257, 4096, 4097, api.MaxPlain - 1, api.MaxPlain} {
		if p, e := squeeze.Pack(noFourTwice(n)); len(p) != 4+n+(n+127)/128 || e != api.OK {
			t.Errorf("P20.6: %d bytes without a match become %d, %d", n, len(p), e)
		}
	}
}

func TestOneByteRepeated(t *testing.T) {
	for k := 1; 131*k+1 <= api.MaxPlain; k++ {
		if k > 20 && k%37 != 0 && 131*(k+1)+1 <= api.MaxPlain {
			continue
		}
		for _, x := range []byte{0, 'a', 255} {
			if p, e := squeeze.Pack(bytes.Repeat([]byte{x}, 131*k+1)); len(p) != 6+3*k || e != api.OK {
				t.Errorf("P20.6: %d bytes %d become %d, %d, want %d", 131*k+1, x, len(p), e, 6+3*k)
			}
		}
	}
}

// upTo: the tokens of b that end at or ahead of a place.
func upTo(t *testing.T, b []byte, place int) []byte {
	t.Helper()
	p, e := squeeze.Pack(b)
	if e != api.OK {
		t.Fatalf("P20.7: Pack of %d bytes: %d", len(b), e)
	}
	end := 0
	pieces := piecesOf(p)
	for i, x := range pieces {
		end += x.makes()
		if end > place {
			return lay(0, pieces[:i])
		}
	}
	return lay(0, pieces)
}

func TestFixedByItsBytes(t *testing.T) {
	for seed := range 150 {
		d := dice(seed)
		b := d.patched(131 + d.below(900))
		for range 12 {
			place := d.below(len(b) - 130)
			head := b[:place+131]
			want := upTo(t, head, place)
			for _, tail := range [][]byte{b[place+131:], d.bytes(1+d.below(300), 2), d.patched(200), head} {
				if got := upTo(t, slices.Concat(head, tail), place); !bytes.Equal(got, want) {
					t.Fatalf("P20.7: seed %d: the tokens up to %d of %d bytes hang on what is behind %d", seed, place, len(b), place+131)
				}
			}
		}
	}
}

// A copy of 131 bytes that begins just ahead of the place is the one that sees farthest.
func TestFixedAtTheEdge(t *testing.T) {
	base := noFourTwice(200)
	for _, n := range []int{130, 131, 132} {
		b := slices.Concat(base, base[:n])
		place := len(b)
		want := upTo(t, slices.Concat(b, make([]byte, 131)), place)
		for _, tail := range [][]byte{make([]byte, 132), make([]byte, 500), slices.Concat(make([]byte, 131), base)} {
			if got := upTo(t, slices.Concat(b, tail), place); !bytes.Equal(got, want) {
				t.Errorf("P20.7: %d bytes from before, then %d others: % x, want % x", n, len(tail), got, want)
			}
		}
	}
}
