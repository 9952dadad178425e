package squeeze_test

import (
	"bytes"
	"slices"
	"testing"

	"amber/api"
	"amber/squeeze"
)

// packs holds Pack against the packed text that it must make.
func packs(t *testing.T, b, want []byte) {
	t.Helper()
	if p, e := squeeze.Pack(b); !bytes.Equal(p, want) || e != api.OK {
		t.Errorf("P20.1: Pack of %d bytes % x .. = %d bytes % x .., %d, want %d bytes % x ..", len(b), first(b), len(p), first(p), e, len(want), first(want))
	}
}

// first: so much of bytes as a message needs.
func first(b []byte) []byte { return b[:min(len(b), 64)] }

func TestPackExamples(t *testing.T) {
	long := noFourTwice(200)
	cases := []struct {
		plain  []byte
		pieces []piece
	}{
		{nil, nil},
		{[]byte("a"), []piece{{run: []byte("a")}}},
		{[]byte("abc"), []piece{{run: []byte("abc")}}},
		{[]byte("aaaaa"), []piece{{run: []byte("a")}, {length: 4, distance: 1}}},
		{[]byte("aaaa"), []piece{{run: []byte("aaaa")}}},
		{[]byte("abcdabcd"), []piece{{run: []byte("abcd")}, {length: 4, distance: 4}}},
		{[]byte("abcdabcdab"), []piece{{run: []byte("abcd")}, {length: 6, distance: 4}}},
		{make([]byte, 132), []piece{{run: []byte{0}}, {length: 131, distance: 1}}},
		{make([]byte, 133), []piece{{run: []byte{0}}, {length: 131, distance: 1}, {run: []byte{0}}}},
		{make([]byte, 263), []piece{{run: []byte{0}}, {length: 131, distance: 1}, {length: 131, distance: 1}}},
		{long, []piece{{run: long[:128]}, {run: long[128:]}}},
		{[]byte("abcdXabcdYabcd"), []piece{{run: []byte("abcdX")}, {length: 4, distance: 5}, {run: []byte("Y")}, {length: 4, distance: 5}}},
	}
	for _, c := range cases {
		packs(t, c.plain, lay(len(c.plain), c.pieces))
	}
}

// The bytes themselves, so that a fault of lay is not hidden.
func TestPackAsBytes(t *testing.T) {
	packs(t, []byte{}, []byte{0, 0, 0, 0})
	packs(t, []byte("a"), []byte{1, 0, 0, 0, 0, 'a'})
	packs(t, []byte("aaaaa"), []byte{5, 0, 0, 0, 0, 'a', 0x80, 0, 0})
	packs(t, []byte("abcdabcdab"), []byte{10, 0, 0, 0, 3, 'a', 'b', 'c', 'd', 0x82, 3, 0})
	packs(t, make([]byte, 133), []byte{0x85, 0, 0, 0, 0, 0, 0xFF, 0, 0, 0, 0})
	packs(t, make([]byte, 263), []byte{7, 1, 0, 0, 0, 0, 0xFF, 0, 0, 0xFF, 0, 0})
	far := slices.Concat([]byte("wxyz"), make([]byte, 300), []byte("wxyz"))
	packs(t, far, []byte{0x34, 1, 0, 0, 4, 'w', 'x', 'y', 'z', 0, 0xFF, 0, 0, 0xFF, 0, 0, 0x80 + 37 - 4, 0, 0, 0x80, 0x2F, 1})
}

func TestPackChooses(t *testing.T) {
	cases := []struct {
		name   string
		plain  string
		pieces []piece
	}{
		{"three bytes are too few", "abcXabcY", []piece{{run: []byte("abcXabcY")}}},
		{"the farther one is longer", "abcdeXabcdYabcde", []piece{{run: []byte("abcdeX")}, {length: 4, distance: 6}, {run: []byte("Y")}, {length: 5, distance: 11}}},
		{"the nearer one is longer", "abcdXabcdeYabcde", []piece{{run: []byte("abcdX")}, {length: 4, distance: 5}, {run: []byte("eY")}, {length: 5, distance: 6}}},
		{"the nearest of three", "abcdXabcdYabcdZabcd", []piece{{run: []byte("abcdX")}, {length: 4, distance: 5}, {run: []byte("Y")}, {length: 4, distance: 5}, {run: []byte("Z")}, {length: 4, distance: 5}}},
		{"from within a copy", "abcdabcdcdabX", []piece{{run: []byte("abcd")}, {length: 4, distance: 4}, {length: 4, distance: 6}, {run: []byte("X")}}},
		{"the first that is long enough, though a longer one begins behind it", "abcdXbcdefgYabcdefg", []piece{{run: []byte("abcdXbcdefgY")}, {length: 4, distance: 12}, {run: []byte("efg")}}},
		{"a copy that reaches into itself", "ababababa", []piece{{run: []byte("ab")}, {length: 7, distance: 2}}},
	}
	for _, c := range cases {
		if p, e := squeeze.Pack([]byte(c.plain)); !bytes.Equal(p, lay(len(c.plain), c.pieces)) || e != api.OK {
			t.Errorf("P20.1: %s: Pack(%q) = % x, %d", c.name, c.plain, p, e)
		}
	}
}

// Plain runs at the edge of 128 bytes: at the end, and ahead of a copy.
func TestPackPlainRuns(t *testing.T) {
	for _, n := range []int{1, 126, 127, 128, 129, 130, 255, 256, 257, 384, 385, 1000} {
		b := noFourTwice(n)
		var pieces []piece
		for run := range slices.Chunk(b, 128) {
			pieces = append(pieces, piece{run: run})
		}
		packs(t, b, lay(n, pieces))
		if n < 126 {
			continue
		}
		again := slices.Concat(b, b[:4])
		packs(t, again, lay(n+4, append(pieces, piece{length: 4, distance: n})))
		one := slices.Concat(again, []byte("!"))
		packs(t, one, lay(n+5, append(pieces, piece{length: 4, distance: n}, piece{run: []byte("!")})))
	}
}

// Copies at the edges of 4 and 131 bytes, far and near, at the end and ahead of more.
func TestPackCopyLengths(t *testing.T) {
	base := noFourTwice(300)
	head := []piece{{run: base[:128]}, {run: base[128:256]}, {run: base[256:]}}
	for n := 4; n <= 131; n++ {
		b := slices.Concat(base, base[:n])
		packs(t, b, lay(len(b), append(slices.Clone(head), piece{length: n, distance: 300})))
		b = append(b, base[n]+1)
		packs(t, b, lay(len(b), append(slices.Clone(head), piece{length: n, distance: 300}, piece{run: []byte{base[n] + 1}})))
	}
	for n := 132; n <= 134; n++ {
		b := slices.Concat(base, base[:n])
		packs(t, b, lay(len(b), append(slices.Clone(head), piece{length: 131, distance: 300}, piece{run: base[131:n]})))
	}
	b := slices.Concat(base, base[:135])
	packs(t, b, lay(len(b), append(slices.Clone(head), piece{length: 131, distance: 300}, piece{length: 4, distance: 300})))
}

// Of matches that agree in more than 131 bytes all count as equally long, so the nearest is taken.
func TestPackNearestOfFullMatches(t *testing.T) {
	base := noFourTwice(200)
	b := slices.Concat(base, []byte("?"), base[:140], []byte("!"), base)
	copies := []piece{{length: 131, distance: 201}, {length: 9, distance: 201}, {run: []byte("!")}, {length: 131, distance: 141}, {length: 69, distance: 342}}
	packs(t, b, lay(len(b), append([]piece{{run: base[:128]}, {run: slices.Concat(base[128:], []byte("?"))}}, copies...)))
}

// The farthest match that there can be is all but as far as the bytes are many.
func TestPackFarthest(t *testing.T) {
	for _, n := range []int{255, 256, 257, 258, 40000, api.MaxPlain - 4} {
		b := slices.Concat([]byte("wxyz"), make([]byte, n-4), []byte("wxyz"))
		p, e := squeeze.Pack(b)
		if e != api.OK || !bytes.HasSuffix(p, []byte{0x80, byte(n - 1), byte((n - 1) >> 8)}) {
			t.Errorf("P20.1: the match at the distance %d: % x, %d", n, p[max(0, len(p)-9):], e)
		}
	}
}

func TestPackSizes(t *testing.T) {
	for _, n := range []int{0, 1, api.MaxPlain - 1, api.MaxPlain} {
		if p, e := squeeze.Pack(make([]byte, n)); len(p) < 4 || e != api.OK || int(p[0])+int(p[1])*256+int(p[2])*65536 != n || p[3] != 0 {
			t.Errorf("P20.1: Pack of %d bytes: % x .., %d", n, first(p), e)
		}
	}
	for _, n := range []int{api.MaxPlain + 1, api.MaxPlain + 2, 2 * api.MaxPlain, 1 << 24} {
		if p, e := squeeze.Pack(make([]byte, n)); p != nil || e != api.ErrSize {
			t.Errorf("P20.1: Pack of %d bytes: % x .., %d", n, first(p), e)
		}
	}
}

// all goes through all byte strings of n bytes below kinds.
func all(n, kinds int, body func([]byte)) {
	b := make([]byte, n)
	for {
		body(b)
		i := 0
		for i < n && int(b[i]) == kinds-1 {
			b[i] = 0
			i++
		}
		if i == n {
			return
		}
		b[i]++
	}
}

func TestPackAllShort(t *testing.T) {
	for _, c := range []struct{ longest, kinds int }{{15, 2}, {9, 3}, {7, 4}} {
		for n := range c.longest + 1 {
			all(n, c.kinds, func(b []byte) { packs(t, b, rulePack(b)) })
		}
	}
}

func TestPackAsTheRules(t *testing.T) {
	for _, b := range samples(120) {
		packs(t, b, rulePack(b))
	}
	d := dice(77)
	packs(t, noFourTwice(5000), rulePack(noFourTwice(5000)))
	for _, b := range [][]byte{d.patched(20000), d.pages(150), d.bytes(9000, 2)} {
		packs(t, b, rulePack(b))
	}
}
