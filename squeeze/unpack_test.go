package squeeze_test

import (
	"bytes"
	"slices"
	"testing"

	"amber/api"
	"amber/squeeze"
)

// unpacks holds Unpack, Size and Tokens against what they must tell.
func unpacks(t *testing.T, p, plain []byte, tokens int, code api.Errno) {
	t.Helper()
	b, e := squeeze.Unpack(p)
	if !bytes.Equal(b, plain) || e != code {
		t.Errorf("P20.2: Unpack(% x ..) = % x .., %d, want % x .., %d", first(p), first(b), e, first(plain), code)
	}
	if code != api.OK && b != nil {
		t.Errorf("P20.2: Unpack(% x ..) is refused with %d, and tells % x, not nil", first(p), e, first(b))
	}
	if n, e := squeeze.Size(p); n != len(plain) || e != code {
		t.Errorf("P20.3: Size(% x ..) = %d, %d, want %d, %d", first(p), n, e, len(plain), code)
	}
	if n, e := squeeze.Tokens(p); n != tokens || e != code {
		t.Errorf("P20.3: Tokens(% x ..) = %d, %d, want %d, %d", first(p), n, e, tokens, code)
	}
}

// asRuled holds the calls against the rules.
func asRuled(t *testing.T, p []byte) {
	t.Helper()
	plain, tokens, code := ruleUnpack(p)
	unpacks(t, p, plain, tokens, code)
}

func TestUnpackExamples(t *testing.T) {
	unpacks(t, []byte{0, 0, 0, 0}, nil, 0, api.OK)
	unpacks(t, []byte{1, 0, 0, 0, 0, 'a'}, []byte("a"), 1, api.OK)
	unpacks(t, []byte{5, 0, 0, 0, 0, 'a', 0x80, 0, 0}, []byte("aaaaa"), 2, api.OK)
	unpacks(t, []byte{8, 0, 0, 0, 3, 'a', 'b', 'c', 'd', 0x80, 3, 0}, []byte("abcdabcd"), 2, api.OK)
	unpacks(t, []byte{0x85, 0, 0, 0, 0, 0, 0xFF, 0, 0, 0, 0}, make([]byte, 133), 3, api.OK)
	unpacks(t, []byte{7, 1, 0, 0, 0, 0, 0xFF, 0, 0, 0xFF, 0, 0}, make([]byte, 263), 3, api.OK)
	long := noFourTwice(200)
	unpacks(t, slices.Concat([]byte{0xC8, 0, 0, 0, 0x7F}, long[:128], []byte{0x47}, long[128:]), long, 2, api.OK)
}

func TestUnpackRefuses(t *testing.T) {
	cases := []struct {
		name   string
		packed []byte
		code   api.Errno
	}{
		{"no bytes", nil, api.ErrShort},
		{"no bytes", []byte{}, api.ErrShort},
		{"one byte", []byte{0}, api.ErrShort},
		{"two bytes", []byte{255, 255}, api.ErrShort},
		{"three bytes", []byte{1, 0, 0}, api.ErrShort},
		{"a length of one too many", []byte{1, 0, 1, 0}, api.ErrPacked},
		{"that, ahead of a token that is not all there", []byte{1, 0, 1, 0, 0}, api.ErrPacked},
		{"the length's third byte", []byte{0, 0, 2, 0}, api.ErrPacked},
		{"the length's fourth byte", []byte{1, 0, 0, 1, 0, 'a'}, api.ErrPacked},
		{"the length's highest bit", []byte{1, 0, 0, 128, 0, 'a'}, api.ErrPacked},
		{"the greatest length", []byte{255, 255, 255, 255}, api.ErrPacked},
		{"no token", []byte{1, 0, 0, 0}, api.ErrPacked},
		{"too few", []byte{2, 0, 0, 0, 0, 'a'}, api.ErrPacked},
		{"too few behind a copy", []byte{6, 0, 0, 0, 0, 'a', 0x80, 0, 0}, api.ErrPacked},
		{"no token, of the greatest length that may be", []byte{0, 0, 1, 0}, api.ErrPacked},
		{"a plain run without bytes", []byte{1, 0, 0, 0, 0}, api.ErrShort},
		{"a plain run of too few bytes", []byte{3, 0, 0, 0, 2, 'a', 'b'}, api.ErrShort},
		{"the longest plain run, of one byte too few", append([]byte{128, 0, 0, 0, 127}, make([]byte, 127)...), api.ErrShort},
		{"a copy without a distance", []byte{5, 0, 0, 0, 0, 'a', 0x80}, api.ErrShort},
		{"a copy with half a distance", []byte{5, 0, 0, 0, 0, 'a', 0x80, 0}, api.ErrShort},
		{"not all there, and too many: a plain run", []byte{1, 0, 0, 0, 0, 'a', 0}, api.ErrShort},
		{"not all there, and too many: a long plain run", []byte{1, 0, 0, 0, 127, 'a', 'b'}, api.ErrShort},
		{"not all there, and too many: a copy", []byte{1, 0, 0, 0, 0, 'a', 0xFF, 0}, api.ErrShort},
		{"not all there, and nothing before it", []byte{4, 0, 0, 0, 0x80, 255}, api.ErrShort},
		{"too many: a plain run", []byte{1, 0, 0, 0, 1, 'a', 'b'}, api.ErrPacked},
		{"too many: a copy", []byte{4, 0, 0, 0, 0, 'a', 0x80, 0, 0}, api.ErrPacked},
		{"behind the end: a plain run", []byte{1, 0, 0, 0, 0, 'a', 0, 'b'}, api.ErrPacked},
		{"behind the end: a copy", []byte{5, 0, 0, 0, 0, 'a', 0x80, 0, 0, 0x80, 0, 0}, api.ErrPacked},
		{"behind the end of no bytes", []byte{0, 0, 0, 0, 0, 'a'}, api.ErrPacked},
		{"behind the end of no bytes, not all there", []byte{0, 0, 0, 0, 0}, api.ErrShort},
		{"a copy from nothing", []byte{4, 0, 0, 0, 0x80, 0, 0}, api.ErrPacked},
		{"a distance of one too many", []byte{5, 0, 0, 0, 0, 'a', 0x80, 1, 0}, api.ErrPacked},
		{"a distance too great by its higher byte", []byte{5, 0, 0, 0, 0, 'a', 0x80, 0, 1}, api.ErrPacked},
		{"the greatest distance", []byte{5, 0, 0, 0, 0, 'a', 0x80, 255, 255}, api.ErrPacked},
		{"too far, ahead of one that is not all there", []byte{9, 0, 0, 0, 0, 'a', 0x80, 1, 0, 0x80}, api.ErrPacked},
		{"too many, ahead of one that is not all there", []byte{1, 0, 0, 0, 1, 'a', 'b', 5}, api.ErrPacked},
		{"not all there, ahead of what would be too few", []byte{90, 0, 0, 0, 0, 'a', 0x80, 0, 0, 9, 'b'}, api.ErrShort},
	}
	for _, c := range cases {
		if b, e := squeeze.Unpack(c.packed); b != nil || e != c.code {
			t.Errorf("P20.2: %s: % x, %d, want %d", c.name, b, e, c.code)
		}
		unpacks(t, c.packed, nil, 0, c.code)
	}
}

// What is plain text, but not in the one form, is refused.
func TestUnpackOtherForms(t *testing.T) {
	base := noFourTwice(300)
	cases := []struct {
		name   string
		plain  []byte
		pieces []piece
	}{
		{"plain where a copy is", []byte("aaaaa"), []piece{{run: []byte("aaaaa")}}},
		{"one plain run in two", []byte("ab"), []piece{{run: []byte("a")}, {run: []byte("b")}}},
		{"128 bytes in two runs", base[:128], []piece{{run: base[:127]}, {run: base[127:128]}}},
		{"129 bytes, the shorter run first", base[:129], []piece{{run: base[:1]}, {run: base[1:129]}}},
		{"a copy that could be longer", []byte("aaaaaa"), []piece{{run: []byte("a")}, {length: 4, distance: 1}, {run: []byte("a")}}},
		{"a copy that could begin earlier", []byte("aaaaaa"), []piece{{run: []byte("aa")}, {length: 4, distance: 1}}},
		{"a copy in two", make([]byte, 9), []piece{{run: []byte{0}}, {length: 4, distance: 1}, {length: 4, distance: 1}}},
		{"a copy of 130 where one of 131 is", make([]byte, 135), []piece{{run: []byte{0}}, {length: 130, distance: 1}, {length: 4, distance: 1}}},
		{"a greater distance", []byte("abcdXabcdYabcd"), []piece{{run: []byte("abcdX")}, {length: 4, distance: 5}, {run: []byte("Y")}, {length: 4, distance: 10}}},
		{"a greater distance within a run of one byte", make([]byte, 11), []piece{{run: []byte{0}}, {length: 5, distance: 1}, {length: 5, distance: 2}}},
		{"the nearer one, which is shorter", []byte("abcdeXabcdYabcde"), []piece{{run: []byte("abcdeX")}, {length: 4, distance: 6}, {run: []byte("Y")}, {length: 4, distance: 5}, {run: []byte("e")}}},
		{"plain ahead of a longer copy", []byte("abcdXbcdefgYabcdefg"), []piece{{run: []byte("abcdXbcdefgYa")}, {length: 6, distance: 8}}},
	}
	for _, c := range cases {
		p := lay(len(c.plain), c.pieces)
		if b, e := squeeze.Unpack(p); b != nil || e != api.ErrPacked {
			t.Errorf("P20.2: %s: % x, %d", c.name, b, e)
		}
		unpacks(t, p, nil, 0, api.ErrPacked)
		unpacks(t, rulePack(c.plain), c.plain, len(rulePieces(c.plain)), api.OK)
	}
}

// otherPieces: tokens that make b, chosen by dice: each a plain run or any copy that is right.
func otherPieces(d *dice, b []byte) []piece {
	var pieces []piece
	for i := 0; i < len(b); {
		next := piece{run: b[i : i+1+d.below(min(128, len(b)-i))]}
		for range d.below(20) {
			if i == 0 {
				break
			}
			distance := 1 + d.below(i)
			if n := ruleMatch(b, i, distance); n >= 4 {
				next = piece{length: 4 + d.below(n-3), distance: distance}
				break
			}
		}
		pieces = append(pieces, next)
		i += next.makes()
	}
	return pieces
}

func TestUnpackFormsByDice(t *testing.T) {
	refused := 0
	for seed := range 600 {
		d := dice(seed)
		b := d.patched(1 + d.below(60))
		p := lay(len(b), otherPieces(&d, b))
		asRuled(t, p)
		if _, e := squeeze.Unpack(p); e != api.OK {
			refused++
		}
	}
	if refused < 300 {
		t.Errorf("P20.2: only %d of the dice's forms are others than Pack's", refused)
	}
}

// All short texts over the bytes that tell most.
func TestUnpackAllShort(t *testing.T) {
	letters := []byte{0, 1, 2, 'a', 0x80, 0x81}
	taken := map[string][]byte{}
	for length := range 8 {
		for n := range 7 {
			all(n, len(letters), func(digits []byte) {
				p := []byte{byte(length), 0, 0, 0}
				for _, x := range digits {
					p = append(p, letters[x])
				}
				asRuled(t, p)
				if b, e := squeeze.Unpack(p); e == api.OK {
					if twin, there := taken[string(b)]; there {
						t.Errorf("P20.5: % x and % x are both % x", twin, p, b)
					}
					taken[string(b)] = p
				}
			})
		}
	}
	if len(taken) < 100 {
		t.Errorf("P20.2: only %d texts are taken", len(taken))
	}
}

// Packed texts cut short, made longer, and changed in a byte.
func TestUnpackMeddled(t *testing.T) {
	for seed := range 60 {
		d := dice(seed)
		p, _ := squeeze.Pack(d.patched(1 + d.below(90)))
		for n := range len(p) {
			asRuled(t, p[:n])
			for _, x := range []byte{0, 1, 0x7F, 0x80, 0xFF, p[n] + 1, p[n] - 1, byte(d.below(256))} {
				q := slices.Clone(p)
				q[n] = x
				asRuled(t, q)
			}
		}
		for _, more := range [][]byte{{0}, {0x80}, {0, 0}, {0x80, 0, 0}, {0xFF, 0}, {1, 2}} {
			asRuled(t, slices.Concat(p, more))
		}
	}
}

func TestUnpackAnyBytes(t *testing.T) {
	for seed := range 20000 {
		d := dice(seed)
		p := d.bytes(d.below(40), []int{3, 130, 256}[d.below(3)])
		if len(p) >= 4 && d.below(4) > 0 {
			p[1], p[2], p[3] = 0, 0, 0
		}
		asRuled(t, p)
	}
}
