package isa_test

import (
	"slices"
	"strconv"
	"strings"
	"testing"

	"amber/api"
	"amber/isa"
)

func TestWordsThroughTheirText(t *testing.T) {
	for seed := range 300 {
		d := dice(seed)
		n := d.below(513)
		if seed == 0 {
			n = 512
		}
		l := d.words(n)
		gives(t, "P7.5", isa.Disassemble(l), l)
	}
	long := slices.Repeat([]uint32{wordOf(api.Instr{Op: 19, A: 1, B: 2, Imm: -32768})}, 512)
	gives(t, "P7.5", isa.Disassemble(long), long)
	gives(t, "P7.5", isa.Disassemble(nil), nil)
}

// blank: blanks, or nothing.
func (d *dice) blank() string { return d.of("", "", " ", "\t", "  ", " \t ") }

// gap: at least one blank.
func (d *dice) gap() string { return d.of(" ", "\t", "\t \t") }

func (d *dice) comment() string {
	return d.of("", "", ";", "; nop", ";;", ";a: b: c", "; \xff\xfe\x00 \u00e9,", ";\t")
}

// dressed is a program with blanks, comments and empty lines wherever the rules allow them.
func (d *dice) dressed(lines []string) string {
	var out []string
	for _, l := range lines {
		for d.below(4) == 0 {
			out = append(out, d.blank()+d.comment())
		}
		name, rest, some := strings.Cut(l, " ")
		text := d.blank() + name
		if some {
			fields := strings.Split(rest, ", ")
			text += d.gap() + strings.Join(fields, d.blank()+","+d.blank())
		}
		out = append(out, text+d.blank()+d.comment())
	}
	return strings.Join(out, "\n")
}

func TestDressChangesNoWord(t *testing.T) {
	for seed := range 400 {
		d := dice(seed)
		l := d.words(d.below(60))
		lines := strings.Split(strings.TrimSuffix(isa.Disassemble(l), "\n"), "\n")
		if len(l) == 0 {
			lines = nil
		}
		gives(t, "P7.6", d.dressed(lines), l)
	}
	bare := "li r0, 3\nloop:addi r0, -1\njnz r0, loop\nsys 1"
	dressed := ";\n\n \t\n\tli\tr0\t,\t3 ;;:\n loop:\taddi \t r0,-1;\n \njnz r0 ,loop\n\t; x: y\n\nsys   1\n\n"
	want, _, _ := isa.Assemble(bare)
	gives(t, "P7.6", dressed, want)
}

func (d *dice) number() string {
	n := strconv.Itoa(d.below(600))
	switch d.below(8) {
	case 0:
		n = d.of("32767", "32768", "65535", "65536", "4294967295", "4294967296", "2147483648", "0000000001", "00000000001", "512", "513")
	case 1:
		n = "0x" + strconv.FormatUint(uint64(d.word()), 16)
	}
	if d.below(4) == 0 {
		n = "-" + n
	}
	return n
}

func (d *dice) label() string { return d.of("a", "b", "c", "r1", "nop", "_x") }

// field: most are what the use asks for.
func (d *dice) field(use rune) string {
	if d.below(40) == 0 {
		return d.of("", "r8", "r0 r1", "1x", "x.y", "R1", "-", "\xff", d.number(), d.label())
	}
	if use == 'a' || use == 'b' {
		return "r" + strconv.Itoa(d.below(8))
	}
	if d.below(3) == 0 {
		return d.label()
	}
	return d.number()
}

func (d *dice) statement() string {
	switch d.below(30) {
	case 0:
		return d.of("", "foo", ".zero", "Nop", ",", "nop nop")
	case 1, 2:
		return ".word " + d.field('i')
	case 3, 4:
		return ".zero " + d.number()
	case 5:
		return ".zero " + strconv.Itoa(500+d.below(13))
	}
	op := chapter[1+d.below(26)]
	text := op.name
	for k, use := range op.uses {
		if k == 0 {
			text += d.gap()
		} else {
			text += d.blank() + "," + d.blank()
		}
		text += d.field(use)
	}
	return text
}

// program: a text of some lines, most of them right, most of its labels there.
func (d *dice) program() string {
	labels := []string{"a", "b", "c", "r1", "nop", "_x"}
	var lines []string
	for range d.below(12) {
		text := d.blank()
		if len(labels) > 0 && d.below(2) == 0 {
			text += labels[0] + d.of(":", ":", ": ", ":\t")
			if d.below(15) > 0 {
				labels = labels[1:]
			}
		}
		lines = append(lines, text+d.statement()+d.blank()+d.comment())
	}
	for _, l := range labels {
		if d.below(8) > 0 {
			lines = append(lines, l+":")
		}
	}
	return strings.Join(lines, "\n")
}

// spoilt is a text with some bytes taken out, put in or changed.
func (d *dice) spoilt(text string) string {
	b := []byte(text)
	for range 1 + d.below(3) {
		k := d.below(len(b) + 1)
		c := d.of(" ", "\t", "\n", ";", ":", ",", "-", "0", "9", "x", "f", "r", "_", ".", "\xff", "\xc3\xa9", "\r", "\x00", "A")
		switch d.below(3) {
		case 0:
			b = slices.Insert(b, k, []byte(c)...)
		case 1:
			b = slices.Delete(b, min(k, len(b)), min(k+1, len(b)))
		default:
			b = append(b[:k:k], append([]byte(c), b[min(k+1, len(b)):]...)...)
		}
	}
	return string(b)
}

// Assemble is held against the rules told once more, at programs that are right, nearly right, and spoilt.
func TestAssembleOfManyTexts(t *testing.T) {
	codes := map[api.Errno]int{}
	for seed := range 30000 {
		d := dice(seed)
		text := d.program()
		if d.below(4) == 0 {
			text = d.spoilt(text)
		}
		words, at, code := isa.Assemble(text)
		want, line, fault := assembled(text)
		if !slices.Equal(words, want) || at != line || code != fault || code != api.OK && words != nil {
			t.Fatalf("P7.4: Assemble(%q) = %08X, %d, %d, want %08X, %d, %d", text, words, at, code, want, line, fault)
		}
		codes[code]++
	}
	for _, code := range []api.Errno{api.OK, api.ErrLine, api.ErrLabel, api.ErrNoSpace} {
		if codes[code] < 200 {
			t.Errorf("only %d texts are answered with %d: the texts don't try it", codes[code], code)
		}
	}
}
