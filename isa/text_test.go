package isa_test

import (
	"slices"
	"strings"
	"testing"

	"amber/api"
	"amber/isa"
)

// gives holds Assemble to these words.
func gives(t *testing.T, promise, text string, want []uint32) {
	t.Helper()
	if words, at, code := isa.Assemble(text); !slices.Equal(words, want) || at != 0 || code != api.OK {
		t.Errorf("%s: Assemble(%.80q) = %08X, %d, %d, want %08X, 0, OK", promise, text, words, at, code, want)
	}
}

// refuses holds Assemble to this line and error.
func refuses(t *testing.T, text string, line int, want api.Errno) {
	t.Helper()
	if words, at, code := isa.Assemble(text); words != nil || at != line || code != want {
		t.Errorf("P7.4: Assemble(%.80q) = %08X, %d, %d, want nil, %d, %d", text, words, at, code, line, want)
	}
}

// The chapter's examples 5 and 6.
func TestAssembleOfTheExamples(t *testing.T) {
	gives(t, "P7.4", "li r0, 3\nloop: addi r0, -1 ; down\n\njnz r0, loop\nsys 1", []uint32{0x02000003, 0x1200FFFF, 0x1700FFFE, 0x1A000001})
	gives(t, "P7.4", "x: .word y\ny:", []uint32{1})
	gives(t, "P7.4", "", nil)
	gives(t, "P7.4", "a:", nil)
	refuses(t, "jmp a\na: foo", 2, api.ErrLine)
	refuses(t, "jmp b\na: foo", 1, api.ErrLabel)
	refuses(t, "a:\na:", 2, api.ErrLabel)
	refuses(t, "a:\na: foo", 2, api.ErrLine)
	for _, text := range []string{"li r0,70000", "li r8, 1", "LI r0, 1", "li r0 1", "nop ,", ".zero 513", "1a: nop", "a : nop"} {
		refuses(t, text, 1, api.ErrLine)
	}
	refuses(t, ".zero 512\nnop", 2, api.ErrNoSpace)
}

func TestNumbersOfATextAtTheirBounds(t *testing.T) {
	for text, want := range map[string]uint32{
		".word 0": 0, ".word 007": 7, ".word -0": 0, ".word -0x10": 0xFFFFFFF0, ".word 0x0": 0, ".word 0x00000000": 0, ".word 0xabcdef01": 0xABCDEF01, ".word -0x0": 0,
		".word 4294967295": top, ".word 0xffffffff": top, ".word -2147483648": 1 << 31, ".word -0x80000000": 1 << 31, ".word -1": top, ".word 0000000009": 9, ".word -0000000009": top - 8,
		"li r0, 32767": 0x02007FFF, "li r0, -32768": 0x02008000, "li r0, 0x7fff": 0x02007FFF, "li r0, -0x8000": 0x02008000, "li r0, -0x00000001": 0x0200FFFF,
		"hi r7, 65535": 0x0370FFFF, "hi r7, 0xffff": 0x0370FFFF, "hi r0, -0": 0x03000000, "sys 65535": 0x1A00FFFF, "sys 0": 0x1A000000, "sys 0000000024": 0x1A000018,
		"addi r3, -32768": 0x12308000, "ld r6, r7, 32767": 0x13677FFF, "st r7, r0, -32768": 0x14708000, "jmp 32767": 0x15007FFF, "jz r1, -1": 0x1610FFFF, "jnz r1, 0": 0x17100000, "call r2, -32768": 0x19208000,
	} {
		gives(t, "P7.4", text, []uint32{want})
	}
	for _, field := range []string{"4294967296", "9999999999", "-2147483649", "-9999999999", "00000000001", "0x100000000", "0x000000001", "-0x80000001", "-0xffffffff", "0x", "-0x", "-", "--1", "+1", "- 1", "1 2", "0X1", "0xA", "0xg", "1a", "0x1_", "1_000", "1.0", "1e3", "'a'", "0b1", "0o7", "\"1\"", "\u0661", "1\r", "1\v", "\xff", "$1", ""} {
		refuses(t, "nop\n.word "+field, 2, api.ErrLine)
		refuses(t, "nop\nli r0, "+field, 2, api.ErrLine)
	}
	for _, text := range []string{"li r0, 32768", "li r0, -32769", "li r0, 0xffff", "li r0, 0x8000", "hi r0, 65536", "hi r0, -1", "sys -1", "sys 65536", "addi r0, 32768", "ld r0, r0, 32768", "st r0, r0, -32769", "jmp 32768", "jz r0, -32769", "jnz r0, 65535", "call r0, 40000", ".zero -1", ".zero 513", ".zero 0x201"} {
		refuses(t, text, 1, api.ErrLine)
	}
	gives(t, "P7.4", ".zero 0x2\n.zero -0\n.zero 0000000001", []uint32{0, 0, 0})
	if words, _, code := isa.Assemble(".zero 512"); len(words) != 512 || code != api.OK {
		t.Errorf("P7.4: .zero 512: %d words, %d", len(words), code)
	}
}

func TestFieldsOfAText(t *testing.T) {
	for _, text := range []string{
		"nop nop", "nop 0", "nop ,", "nop,", ",", ",nop", "li", "li r0", "li r0,", "li ,r0", "li r0,,1", "li r0, 1,", ",li r0, 1", "li r0, 1, 2", "li, r0, 1", "li 1, r0", "li r0\v, 1", "mov r0", "mov r0, 1", "mov r0, x\nx:", "mov x, r0\nx:", "mov r0 r1", "mov r0, r1, r2", "mov r0, R1", "mov r0, r8", "mov r0, r-1", "mov r0, r01", "mov r0, r", "mov r0, 1r", "mov r0, r1r", "mov r\u0661, r0", "jr 5", "jr x\nx:", "jr r0, 0", "jmp", "jmp 1, 2", "jmp r0, 1", "sys", "sys r1, 1", "ld r0, r1", "ld r0, 1, r1", "ld r0, r1, r2, 1", "st r0, r1, 1 2", "call 5", "call r8, 1",
		".word", ".word ,", ".word 1,", ".word 1, 2", ".word 1 2", ".word x y", ".word .x", ".zero", ".zero x\nx:", ".zero 1, 1", ".Word 1", ".WORD 1", ".words 1", "word 1", "zero 1", ".", "Nop", "NOP", "no", "nopp", "nop.", "halt", "0", "r0", "r0, r1", "-", "\x00", "nop\x00", "nop\r", "nop\r\n", "\u00a0nop", "\ufeffnop", "nop\u2028nop", "n\u00f6p", "\xff", "\xc3", "nop \xff", "\ufffd",
	} {
		refuses(t, text, 1, api.ErrLine)
	}
	for text, want := range map[string]uint32{"mov r0,r7": 0x04070000, "mov\tr7\t,\tr0": 0x04700000, "mov  r1  ,  r2  ": 0x04120000, "\t \tjr\t \tr5\t ;r9": 0x18500000, "nop": 0x01000000, "ld r1,r2,-4": 0x1312FFFC} {
		gives(t, "P7.4", text, []uint32{want})
	}
}

func TestLabelsOfAText(t *testing.T) {
	for _, label := range []string{"a", "Z", "_", "__", "_0", "a1b2", "r1", "r9", "nop", "li", "LONG_name_1234567890", strings.Repeat("x", 5000)} {
		gives(t, "P7.4", "nop\n"+label+": jmp "+label, []uint32{0x01000000, 0x1500FFFF})
		gives(t, "P7.4", ".word "+label+"\n "+label+":nop", []uint32{1, 0x01000000})
	}
	for _, label := range []string{"", "1", "1a", "-a", "a-b", ".a", "a.b", "a b", "a ", "a\t", "\u00e9", "a\u00e9", "\xff", "a\xff", "a\r", "a\x00", "$a", "a,"} {
		refuses(t, label+": nop", 1, api.ErrLine)
		refuses(t, label+":", 1, api.ErrLine)
		refuses(t, label+": foo", 1, api.ErrLine)
	}
	for _, text := range []string{"a: b: nop", "a::", "a: :", "a: nop :", "a: nop: b", "nop :", ":", "::", "a: .word b:", "a: foo\njmp a"} {
		refuses(t, text, 1, api.ErrLine)
	}
	gives(t, "P7.4", "a: ;:\n;b: nop\n nop ; c:", []uint32{0x01000000})
	gives(t, "P7.4", "a:\nA:\n_a:\nnop\n.word A", []uint32{0x01000000, 0})
}

// A label is a distance in jmp, jz, jnz and call, and a number of words in all else.
func TestLabelsInFields(t *testing.T) {
	gives(t, "P7.4", "a: nop\nb: jmp a\njmp b\njmp c\njz r1, a\njnz r2, c\ncall r3, c\nc: call r4, c",
		[]uint32{0x01000000, 0x1500FFFE, 0x1500FFFE, 0x15000003, 0x1610FFFB, 0x17200001, 0x19300000, 0x1940FFFF})
	gives(t, "P7.4", ".zero 3\nx: li r1, x\nhi r2, x\naddi r3, x\nld r4, r5, x\nst r6, r7, x\nsys x\n.word x\n.word y\ny:",
		[]uint32{0, 0, 0, 0x02100003, 0x03200003, 0x12300003, 0x13450003, 0x14670003, 0x1A000003, 3, 11})
	gives(t, "P7.4", "r1: jmp r1\njz r1, r1\n.word r2\nr2:", []uint32{0x1500FFFF, 0x1610FFFE, 3})
	words, _, code := isa.Assemble("jmp end\n.zero 510\nback: jmp 0\nend:")
	if code != api.OK || len(words) != 512 || words[0] != 0x150001FF {
		t.Errorf("P7.4: a label behind the last word: %d words, %d", len(words), code)
	}
	words, _, code = isa.Assemble("a: .zero 511\njmp a")
	if code != api.OK || len(words) != 512 || words[511] != 0x1500FE00 {
		t.Errorf("P7.4: a label 512 words back: %d words, %d", len(words), code)
	}
}

func TestFirstFaultAndItsFirstError(t *testing.T) {
	refuses(t, "jmp x\nfoo", 1, api.ErrLabel)
	refuses(t, "foo\njmp x", 1, api.ErrLine)
	refuses(t, "\n\nnop\njmp x ; x:", 4, api.ErrLabel)
	refuses(t, "a: nop\n\na: jmp x", 3, api.ErrLabel)
	refuses(t, "a: nop\na: .word 1 2", 2, api.ErrLine)
	refuses(t, "jmp a\n1 a: nop", 1, api.ErrLabel)
	refuses(t, "jmp a\na : nop", 1, api.ErrLabel)
	refuses(t, "jmp a\nb: a: nop", 1, api.ErrLabel)
	refuses(t, "jmp a\na: b: nop", 2, api.ErrLine)
	refuses(t, "jmp a\nfoo\na:", 2, api.ErrLine)
	refuses(t, "jmp A\na:", 1, api.ErrLabel)
	refuses(t, "li x, y", 1, api.ErrLine)
	refuses(t, ".word x", 1, api.ErrLabel)
	refuses(t, "sys x", 1, api.ErrLabel)
	refuses(t, ".zero 512\njmp x", 2, api.ErrLabel)
	refuses(t, ".zero 512\nx: nop\njmp x", 2, api.ErrNoSpace)
	refuses(t, ".zero 512\nx: foo", 2, api.ErrLine)
	refuses(t, "x: .zero 512\nx: nop", 2, api.ErrLabel)
	refuses(t, "jmp far\n.zero 511\nnop\nfar:", 3, api.ErrNoSpace)
	refuses(t, "nop\n.zero 512\nfoo", 2, api.ErrNoSpace)
	refuses(t, ".zero 512\n.zero 512\n.zero 512", 2, api.ErrNoSpace)
	refuses(t, strings.Repeat(".zero 0\n", 700)+strings.Repeat("a:\n", 2), 702, api.ErrLabel)
	gives(t, "P7.4", ".zero 512\n.zero 0\na:\n\n;", make([]uint32, 512))
}

func TestTextsOfTheGreatestLength(t *testing.T) {
	refuses(t, strings.Repeat("\n", 16385), 0, api.ErrSize)
	refuses(t, strings.Repeat("foo\n", 5000), 0, api.ErrSize)
	refuses(t, ";"+strings.Repeat("\xff", 16384), 0, api.ErrSize)
	refuses(t, strings.Repeat("a", 1<<20), 0, api.ErrSize)
	gives(t, "P7.4", ";"+strings.Repeat("\xff", 16383), nil)
	gives(t, "P7.4", strings.Repeat("\n", 16384), nil)
	gives(t, "P7.4", strings.Repeat(" ", 16381)+"nop", []uint32{0x01000000})
	refuses(t, strings.Repeat("\n", 16383)+"x", 16384, api.ErrLine)
	refuses(t, strings.Repeat(",", 16384), 1, api.ErrLine)
	refuses(t, "nop "+strings.Repeat(",", 16380), 1, api.ErrLine)
	refuses(t, strings.Repeat("a:\n", 5461), 2, api.ErrLabel)
}

func TestDisassembleOfTheTable(t *testing.T) {
	for i, want := range map[api.Instr]string{
		{Op: 1}: "nop", {Op: 2, A: 0, Imm: 3}: "li r0, 3", {Op: 2, A: 7, Imm: -32768}: "li r7, -32768", {Op: 3, A: 1, Imm: 65535}: "hi r1, 65535", {Op: 4, A: 1, B: 2}: "mov r1, r2", {Op: 5, A: 0, B: 0}: "add r0, r0", {Op: 6, A: 3, B: 4}: "sub r3, r4", {Op: 7, A: 3, B: 4}: "mul r3, r4", {Op: 8, A: 3, B: 4}: "div r3, r4", {Op: 9, A: 3, B: 4}: "rem r3, r4", {Op: 10, A: 5, B: 6}: "and r5, r6", {Op: 11, A: 5, B: 6}: "or r5, r6", {Op: 12, A: 5, B: 6}: "xor r5, r6", {Op: 13, A: 5, B: 6}: "shl r5, r6", {Op: 14, A: 5, B: 6}: "shr r5, r6", {Op: 15, A: 5, B: 6}: "lt r5, r6", {Op: 16, A: 5, B: 6}: "slt r5, r6", {Op: 17, A: 5, B: 6}: "eq r5, r6",
		{Op: 18, A: 1, Imm: -1}: "addi r1, -1", {Op: 19, A: 1, B: 2, Imm: -4}: "ld r1, r2, -4", {Op: 20, A: 1, B: 2, Imm: 0}: "st r1, r2, 0", {Op: 21, Imm: 32767}: "jmp 32767", {Op: 22, A: 1, Imm: 10}: "jz r1, 10", {Op: 23, A: 1, Imm: -10}: "jnz r1, -10", {Op: 24, A: 6}: "jr r6", {Op: 25, A: 6, Imm: 100}: "call r6, 100", {Op: 26, Imm: 65535}: "sys 65535",
	} {
		if got := isa.Disassemble([]uint32{wordOf(i)}); got != want+"\n" {
			t.Errorf("P7.4: Disassemble(%v) = %q, want %q", i, got, want+"\n")
		}
	}
	for w, want := range map[uint32]string{0: "00000000", 0xF: "0000000f", 0x01000001: "01000001", 0x02380005: "02380005", 0x1B000000: "1b000000", 0xFEDCBA98: "fedcba98", top: "ffffffff", 0x00ABCDEF: "00abcdef"} {
		if got := isa.Disassemble([]uint32{w}); got != ".word 0x"+want+"\n" {
			t.Errorf("P7.4: Disassemble(%08X) = %q", w, got)
		}
	}
	if got := isa.Disassemble([]uint32{0x02000003, 0x1312FFFC, 0x0000000F, 0x1A000000}); got != "li r0, 3\nld r1, r2, -4\n.word 0x0000000f\nsys 0\n" {
		t.Errorf("P7.4: Disassemble of the example = %q", got)
	}
	if isa.Disassemble(nil) != "" || isa.Disassemble([]uint32{}) != "" {
		t.Error("P7.4: Disassemble of no words is not empty")
	}
}

func TestDisassembleHasNoBound(t *testing.T) {
	d := dice(8)
	l := d.words(30000)
	was := slices.Clone(l)
	pieces := strings.SplitAfter(isa.Disassemble(l), "\n")
	if len(pieces) != 30001 || pieces[30000] != "" {
		t.Fatalf("P7.4: Disassemble of 30000 words: %d lines", len(pieces)-1)
	}
	if !slices.Equal(l, was) {
		t.Fatal("P7.4: Disassemble changed its words")
	}
	for k, w := range l {
		if want := isa.Disassemble([]uint32{w}); pieces[k] != want {
			t.Fatalf("P7.4: line %d is %q, want %q", k+1, pieces[k], want)
		}
	}
	refuses(t, strings.Join(pieces[:513], ""), 513, api.ErrNoSpace)
}
