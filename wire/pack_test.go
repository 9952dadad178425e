package wire_test

import (
	"bytes"
	"math"
	"slices"
	"strconv"
	"strings"
	"testing"

	"amber/api"
	"amber/wire"
)

// noShapes: texts that are no shapes, each for a reason of its own.
var noShapes = []string{
	"1b", "0b", "b)", ")", "(b", "(", "((b)", "(b))", "2", "b2", "22b", "2 b", "2)", "(2)", "2(", "2(b", "9",
	"((((()))))", "((((2(b)))))", "9(9(3b))", "9(9(9(9(9b))))",
	"x", "B", "b b", " b", "b\n", "b,b", "[b]", "-b", "b*2", "bé", "é", "\x00", "b\x00", "(b\x00", "\xff", "２b", "a", "c", "k", "m", "i", "q", "d",
	strings.Repeat("b", 65), strings.Repeat("(", 65), strings.Repeat("é", 33),
	strings.Repeat("9(9b)", 2) + strings.Repeat("9b", 8) + "5b",
	"9(9b)9(9b)9(8b)", // 90 + 90 + 81 units
}

// letters of a shape's text, and how many numbers it takes.
var shapes = []struct {
	text string
	n    int
}{
	{"", 0}, {"b", 1}, {"h", 1}, {"w", 1}, {"l", 1}, {"bhwl", 4}, {"2b", 2}, {"9l", 9}, {"b2hb", 4},
	{"()", 0}, {"()()", 0}, {"9()", 0}, {"(())", 0}, {"(b)", 1}, {"2(b)", 2}, {"2(2b)", 4}, {"b(h(w(l(b)h)w)l)b", 9},
	{"((((b))))", 1}, {"(((())))", 0}, {"9(9(2b))", 162}, {"9(9b)9(9b)9(7b)4b", 229}, // the last: 90 + 90 + 72 + 4, just 256 units
	{strings.Repeat("b", 64), 64}, {strings.Repeat("()", 32), 0},
	{strings.Repeat("9l", 28) + "4l", 256},
}

// model reads a shape that is one, by writing its repeats out, and packs numbers by it: the document's words, kept apart from the package's own way.
type model struct {
	text string
	vals []int
}

func (m *model) pack() []byte {
	var out []byte
	for m.text != "" && m.text[0] != ')' {
		times := 1
		if m.text[0] >= '2' && m.text[0] <= '9' {
			times, _ = strconv.Atoi(m.text[:1])
			m.text = m.text[1:]
		}
		again := m.text
		for range times {
			m.text = again
			out = append(out, m.unit()...)
		}
	}
	return out
}

func (m *model) unit() []byte {
	c := m.text[0]
	m.text = m.text[1:]
	if c == '(' {
		body := m.pack()
		m.text = m.text[1:]
		return sealed(body)
	}
	v := m.vals[0]
	m.vals = m.vals[1:]
	return lowFirst(uint64(v), map[byte]int{'b': 1, 'h': 2, 'w': 4, 'l': 8}[c])
}

// someNumbers gives numbers that fit every letter when cut to a byte.
func someNumbers(n int) []int {
	out := make([]int, n)
	for i, b := range someBytes(uint32(n), n) {
		out[i] = int(b)
	}
	return out
}

func TestTextsThatAreNoShapes(t *testing.T) {
	for _, text := range noShapes {
		for _, vals := range [][]int{nil, {1}, {300}, someNumbers(256)} {
			if b, e := wire.Pack(text, vals); b != nil || e != api.ErrShape {
				t.Errorf("P2.10: Pack(%q) = % x, %d, want nil, ErrShape", text, b, e)
			}
		}
		for _, data := range [][]byte{nil, {1}, make([]byte, 3000)} {
			if v, e := wire.Unpack(text, data); v != nil || e != api.ErrShape {
				t.Errorf("P2.10: Unpack(%q) = %v, %d, want nil, ErrShape", text, v, e)
			}
		}
	}
}

func TestShapes(t *testing.T) {
	for _, c := range shapes {
		vals := someNumbers(c.n)
		kept := slices.Clone(vals)
		want := (&model{text: c.text, vals: vals}).pack()
		b, e := wire.Pack(c.text, vals)
		if e != api.OK || !bytes.Equal(b, want) {
			t.Errorf("P2.10: Pack(%q) = % x, %d, want % x", c.text, b, e, want)
		}
		if !slices.Equal(vals, kept) {
			t.Errorf("P2.11: Pack(%q) changed its numbers", c.text)
		}
		if v, e := wire.Unpack(c.text, b); e != api.OK || !slices.Equal(v, vals) {
			t.Errorf("P2.13: Unpack(%q) = %v, %d, want %v", c.text, v, e, vals)
		}
	}
}

func TestCounts(t *testing.T) {
	for _, c := range shapes {
		for _, n := range []int{0, c.n - 1, c.n + 1, c.n + 300} {
			if n < 0 || n == c.n {
				continue
			}
			vals := make([]int, n)
			for i := range vals {
				vals[i] = 1 << 40
			}
			if b, e := wire.Pack(c.text, vals); b != nil || e != api.ErrCount {
				t.Errorf("P2.11: Pack(%q) of %d numbers = % x, %d, want nil, ErrCount", c.text, n, b, e)
			}
		}
	}
}

func TestNumbersOfLetters(t *testing.T) {
	for _, c := range []struct {
		letter    string
		fit, dont []int
	}{
		{"b", []int{0, 1, 255}, []int{-1, 256, 65535, math.MinInt, math.MaxInt}},
		{"h", []int{0, 256, 65535}, []int{-1, 65536, math.MinInt, math.MaxInt}},
		{"w", []int{0, 65536, 1 << 31, 4294967295}, []int{-1, 4294967296, 1<<32 + 5, math.MinInt, math.MaxInt}},
		{"l", []int{0, -1, 4294967296, math.MinInt, math.MaxInt}, nil},
	} {
		for _, shape := range []string{c.letter, "b" + c.letter, "(" + c.letter + ")", "b((" + c.letter + "))", "2" + c.letter} {
			ahead := strings.Count(shape, "b") + strings.Count(shape, "2")
			if c.letter == "b" {
				ahead--
			}
			for _, v := range c.fit {
				vals := append(make([]int, ahead), v)
				b, e := wire.Pack(shape, vals)
				if want := (&model{text: shape, vals: vals}).pack(); e != api.OK || !bytes.Equal(b, want) {
					t.Errorf("P2.11: Pack(%q, %v) = % x, %d, want % x", shape, vals, b, e, want)
				}
				if u, e := wire.Unpack(shape, b); e != api.OK || !slices.Equal(u, vals) {
					t.Errorf("P2.13: Unpack(%q) = %v, %d, want %v", shape, u, e, vals)
				}
			}
			for _, v := range c.dont {
				vals := append(make([]int, ahead), v)
				if b, e := wire.Pack(shape, vals); b != nil || e != api.ErrArg {
					t.Errorf("P2.11: Pack(%q, %v) = % x, %d, want nil, ErrArg", shape, vals, b, e)
				}
			}
		}
	}
}

func TestPackExamples(t *testing.T) {
	for _, c := range []struct {
		shape string
		vals  []int
		want  string
		code  api.Errno
	}{
		{"bh", []int{7, 258}, "\x07\x02\x01", api.OK},
		{"b", []int{256}, "", api.ErrArg},
		{"b", nil, "", api.ErrCount},
		{"x", nil, "", api.ErrShape},
		{"()", nil, "\x00\x00\x00\x00", api.OK},
		{"2(b)", []int{1, 1}, "\x01\x1b\xdf\x05\xa5\x01\x1b\xdf\x05\xa5", api.OK},
		{"2b", []int{1, 256, 3}, "", api.ErrCount},
		{"", nil, "", api.OK},
		{"", []int{}, "", api.OK},
	} {
		if b, e := wire.Pack(c.shape, c.vals); string(b) != c.want || e != c.code {
			t.Errorf("P2.11: Pack(%q, %v) = % x, %d, want % x, %d", c.shape, c.vals, b, e, c.want, c.code)
		}
	}
}

func TestUnpackExamples(t *testing.T) {
	for _, c := range []struct {
		shape string
		data  string
		want  []int
		code  api.Errno
	}{
		{"l", "\xff\xff\xff\xff\xff\xff\xff\xff", []int{-1}, api.OK},
		{"w", "\xff\xff\xff\xff", []int{4294967295}, api.OK},
		{"b", "\x01\x02", nil, api.ErrTrail},
		{"(b)w", "\x01\x00\x00\x00\x00", nil, api.ErrSeal},
		{"(b)w", "\x01\x1b\xdf\x05\xa5", nil, api.ErrShort},
		{"(b)w", "\x01\x1b\xdf\x05", nil, api.ErrShort},
		{"(b)", "\x01\x1b\xdf\x05\xa5\x00", nil, api.ErrTrail},
		{"(b)", "\x01\x1b\xdf\x05\xa4\x00", nil, api.ErrSeal},
		{"()", "\x00\x00\x01\x00", nil, api.ErrSeal},
		{"()", "\x00\x00\x00", nil, api.ErrShort},
		{"h", "\x01", nil, api.ErrShort},
		{"bh", "\x01\x02", nil, api.ErrShort},
		{"2(b)", "\x01\x1b\xdf\x05\xa5\x01\x1b\xdf\x05\xa4", nil, api.ErrSeal},
		{"2(b)", "\x01\x00\x00\x00\x00\x01\x1b\xdf\x05", nil, api.ErrSeal},
		{"((b)h)", "\x01\x00\x00\x00\x00", nil, api.ErrSeal},
		{"((b)h)", "\x01\x1b\xdf\x05\xa5\x00", nil, api.ErrShort},
		{"", "", nil, api.OK},
		{"", "\x00", nil, api.ErrTrail},
	} {
		if v, e := wire.Unpack(c.shape, []byte(c.data)); !slices.Equal(v, c.want) || e != c.code || e != api.OK && v != nil {
			t.Errorf("P2.12: Unpack(%q, % x) = %v, %d, want %v, %d", c.shape, c.data, v, e, c.want, c.code)
		}
	}
}

func TestUnpackOfEachLength(t *testing.T) {
	for _, c := range shapes {
		b, _ := wire.Pack(c.text, someNumbers(c.n))
		for n := range b {
			if v, e := wire.Unpack(c.text, b[:n]); v != nil || e != api.ErrShort {
				t.Errorf("P2.12: Unpack(%q) of %d of %d bytes = %v, %d, want nil, ErrShort", c.text, n, len(b), v, e)
			}
		}
		if v, e := wire.Unpack(c.text, append(b, 0)); v != nil || e != api.ErrTrail {
			t.Errorf("P2.12: Unpack(%q) with a byte left = %v, %d, want nil, ErrTrail", c.text, v, e)
		}
	}
}

func TestOuterSumHoldsInnerOne(t *testing.T) {
	inner := sealed([]byte{1})
	good := sealed(append(inner, 2, 3))
	if v, e := wire.Unpack("((b)h)", good); e != api.OK || !slices.Equal(v, []int{1, 770}) {
		t.Errorf("P2.12: %v, %d", v, e)
	}
	without := sealed([]byte{1, 2, 3})[3:]
	if v, e := wire.Unpack("((b)h)", append(append(inner, 2, 3), without...)); v != nil || e != api.ErrSeal {
		t.Errorf("P2.12: an outer sum that leaves the inner one out = %v, %d", v, e)
	}
	for i := range good {
		bad := bytes.Clone(good)
		bad[i] ^= 1
		if v, e := wire.Unpack("((b)h)", bad); v != nil || e != api.ErrSeal {
			t.Errorf("P2.12: byte %d spoilt = %v, %d", i, v, e)
		}
	}
}

func TestPackSharesNothing(t *testing.T) {
	vals := []int{1, 2}
	a, _ := wire.Pack("2b", vals)
	b, _ := wire.Pack("2b", vals)
	for i := range a[:cap(a)] {
		a[:cap(a)][i] = 9
	}
	if !bytes.Equal(b, []byte{1, 2}) || !slices.Equal(vals, []int{1, 2}) {
		t.Errorf("P2.11: answers share memory: %v, %v", b, vals)
	}
	data := []byte{1, 2}
	u, _ := wire.Unpack("2b", data)
	v, _ := wire.Unpack("2b", data)
	for i := range u[:cap(u)] {
		u[:cap(u)][i] = 9
	}
	if !slices.Equal(v, []int{1, 2}) || !bytes.Equal(data, []byte{1, 2}) {
		t.Errorf("P2.12: answers share memory: %v, %v", v, data)
	}
}

// TestAllShortTexts goes through every text of up to five signs: none may panic, and what one call takes for a shape the other does too.
func TestAllShortTexts(t *testing.T) {
	signs := "b2()hx"
	var try func(text string)
	try = func(text string) {
		_, packed := wire.Pack(text, nil)
		_, read := wire.Unpack(text, nil)
		if (packed == api.ErrShape) != (read == api.ErrShape) || (packed == api.ErrShape) == isShape(text) {
			t.Errorf("P2.10: %q: Pack answers %d, Unpack %d", text, packed, read)
		}
		if len(text) < 5 {
			for i := range signs {
				try(text + signs[i:i+1])
			}
		}
	}
	try("")
}

// isShape strikes units out of a text until nothing is left, or nothing more can be struck (depth and number of units can't be too great in so short a text).
func isShape(text string) bool {
	for {
		next := strings.NewReplacer("2()", "", "()", "", "2b", "", "b", "", "2h", "", "h", "").Replace(strings.ReplaceAll(text, "22", "x"))
		if next == text {
			return text == ""
		}
		text = next
	}
}
