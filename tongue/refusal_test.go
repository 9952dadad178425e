package tongue_test

import (
	"slices"
	"strings"
	"testing"

	"amber/api"
	"amber/tongue"
)

// refusal: what every call tells of a source's first fault; all must tell the same, and nothing beside it.
func refusal(t *testing.T, source string) (int, api.Errno) {
	t.Helper()
	words, line, code := tongue.Compile(source)
	text, line1, code1 := tongue.Listing(source)
	plain, line2, code2 := tongue.Format(source)
	m, line3, code3 := tongue.Eval(source, []uint32{1, 2}, 50)
	names, places, code4 := tongue.Data(source)
	if line1 != line || line2 != line || line3 != line || code1 != code || code2 != code || code3 != code || code4 != code {
		t.Fatalf("P23.1: %q is refused in several ways: %d, %d, %d, %d; %d, %d, %d, %d, %d", source, line, line1, line2, line3, code, code1, code2, code3, code4)
	}
	if code != api.OK && (words != nil || text != "" || plain != "" || !same(m, api.Meaning{}) || names != nil || places != nil) {
		t.Fatalf("P23.1: %q: beside error %d something is told", source, code)
	}
	if code == api.OK && (line != 0 || len(words) < 5 || text == "" || m.State == 0) {
		t.Fatalf("P23.1: %q is taken, and too little is told", source)
	}
	return line, code
}

func refused(t *testing.T, source string, line int, code api.Errno) {
	t.Helper()
	if l, c := refusal(t, source); l != line || c != code {
		t.Errorf("P23.1: %.90q: line %d, error %d, want %d, %d", source, l, c, line, code)
	}
	if l, c := ruleRefuses(source); l != line || c != code {
		t.Errorf("the model of %.90q: line %d, error %d, want %d, %d", source, l, c, line, code)
	}
}

func n(s string, times int) string { return strings.Repeat(s, times) }

func TestFaultsOfForm(t *testing.T) {
	for source, line := range map[string]int{
		"emit 1": 1, "emit 1\n\n": 3, "emit 1 // ;\n": 2, "emit 1 // ;": 1, "emit 1 2;": 1, "emit 1;\n;": 2, "\n\nemit": 3,
		"var": 1, "var ;": 1, "var 1;": 1, "var\na\n": 3, "var a": 1, "var a;\nvar b\nvar c;": 3, "var a[": 1, "var a[]": 1, "var a[b];": 1, "var a[1;": 1, "var a[1]": 1, "var a[1+1];": 1, "var a = 1;": 1, "var a, b;": 1,
		"var a[0];": 1, "var a[\n00];": 2, "var a[0x0];": 1, "var if": 1, "var if[0];": 1, "emit 1; var x;": 1, "{ var x; }": 1,
		"emit;": 1, "emit 1 +;": 1, "emit + 1;": 1, "emit 1 + * 2;": 1, "emit ();": 1, "emit (1;": 1, "emit 1);": 1, "emit a[;": 1, "emit a[];": 1, "emit 1[0];": 1, "emit (a)[0];": 1, "emit ask[0];": 1, "emit ask();": 1, "emit 1 = 2;": 1, "emit 1 ! 2;": 1, "emit 1 ~ 2;": 1, "emit emit;": 1, "emit var;": 1,
		"x;": 1, "x 1;": 1, "x == 1;": 1, "x = ;": 1, "x = 1": 1, "x[1];": 1, "x[1] 2;": 1, "x[] = 1;": 1, "x += 1;": 1, "1 = 2;": 1, "ask = 1;": 1, "ask;": 1, "(x) = 1;": 1,
		"if {}": 1, "if 1 emit 1;": 1, "if 1": 1, "if 1 {": 1, "if 1 {\n": 2, "if 1 {} else": 1, "if 1 {} else emit 1;": 1, "if 1 {} else while 1 {}": 1, "else {}": 1, "if 1 {} else {} else {}": 1, "while {}": 1, "while 1 {} else {}": 1, "while 1;": 1,
		"yield 1;": 1, "yield": 1, "break 1;": 1, "continue": 1, "stop;": 1, "{": 1, "}": 1, "{}}": 1, "{ emit 1 }": 1, "{};": 1,
		"emit 4294967296;": 1, "emit 9999999999;": 1, "emit 00000000001;": 1, "emit 12ab;": 1, "emit 0x;": 1, "emit 0X1;": 1, "emit 0xAB;": 1, "emit 0x123456789;": 1, "emit 0x000000001;": 1, "emit 0xg;": 1, "emit 1_0;": 1, "emit 0_;": 1,
		"var abcdefghijklmnopq;": 1, "abcdefghijklmnopq = 1;": 1, "var 1a;": 1,
		"emit 1;\r": 1, "\x00": 1, "emit 1;\n\n #": 3, "emit \"1\";": 1, "emit 1 ? 2 : 3;": 1, "emit 'a';": 1, "emit 1.5;": 1, "emit \u00e9;": 1, "emit \xff;": 1, "/": 1, "/* x */": 1, "emit 1 / / 2;": 1, "emit 1 // 2;\n": 2, "\x0b": 1, "\u00a0": 1, "emit 1;\xe2\n": 1,
		"var x;\nx = y;\n}": 3, "x = 1;\n?": 2, "var a[97];\nx": 2, "break;\nemit": 2,
	} {
		refused(t, source, line, api.ErrSource)
	}
	for _, source := range []string{
		"", " \t\n", "//", "// \r\xff", "//\n//\n", "emit 4294967295;", "emit 0xffffffff;", "emit 0000000000;", "emit 0000000007;", "emit 0x00000001;",
		"var abcdefghijklmnop;", "var _;", "var _1; _1 = 1;", "var A; var a; A = a;", "var x0; emit x0;", "var Var; var IF;", "var a[1]; a[0] = a[a[0]];",
		"emit 1//\n+1;", "emit 1<2;emit 1<<2;emit 1<-2;emit 1&&2;emit 1&-2;emit !1!=2;emit 1==!2;", "emit - - 1; emit -!~-1;", "emit (((1)));", "if(1){}else{}", "if 1 {} else if 2 {} else if 3 {}", "{}{}{{}}", "while 1 { { if 1 { break; } else { continue; } } }",
	} {
		refused(t, source, 0, api.OK)
	}
}

func TestFaultsOfNames(t *testing.T) {
	for source, line := range map[string]int{
		"x = 1;": 1, "emit\nx;": 2, "var x;\nvar\nx;": 3, "var x[1];\nvar x;": 2, "var if;": 1, "var\nvar;": 2, "var ask[3];": 1, "var else; var else;": 1,
		"var x; emit x[0];": 1, "var x[2]; emit x;": 1, "var x[2]; x = 1;": 1, "var x; x[0] = 1;": 1, "var x; emit X;": 1, "var a[1]; a[a] = 1;": 1, "var a[1];\na[0] =\na;": 3, "var x; emit (x)\n+ -y;": 2, "if z {}": 1, "while 0 {\nz = 1; }": 2, "stop z;": 1,
		"break;": 1, "continue;": 1, "if 1 {\nbreak; }": 2, "{ continue; }": 1, "while 1 { if 1 { break; } } continue;": 1, "while 1 {}\n{ break; }": 2, "while 1 { while 1 {} }\nbreak;": 2, "if 1 { while 1 { } } else {\nbreak; }": 2,
		"break;\nx = 1;": 1, "x = 1;\nbreak;": 1, "var x; var y;\nvar x; z = 1;": 2, "emit a;\nemit b;": 1, "var a[97]; var b;\nx = 1;": 2, "x = 1; " + n("{", 17) + n("}", 17): 1,
	} {
		refused(t, source, line, api.ErrName)
	}
}

func TestFaultsOfSize(t *testing.T) {
	deep := func(k int) string { return "emit " + n("(", k) + "1" + n(")", k) + ";" }
	right := func(k int) string { return "emit " + n("1 + (", k) + "1" + n(")", k) + ";" }
	for _, c := range []struct {
		source string
		line   int
		code   api.Errno
	}{
		{"var a[96];", 0, api.OK}, {"var a[97];", 1, api.ErrBig}, {"var a[96];\nvar b;", 2, api.ErrBig}, {"var a[95]; var\nb[1];\nvar c;\nvar d[9];", 3, api.ErrBig}, {"var a[4294967295];\nvar b[4294967295];", 1, api.ErrBig},
		{"var a[97];\n" + deep(16), 1, api.ErrBig},
		{deep(15), 0, api.OK}, {deep(16), 1, api.ErrBig}, {"\n" + strings.Replace(deep(16), "emit ", "emit\n", 1), 3, api.ErrBig},
		{right(7), 0, api.OK}, {right(8), 1, api.ErrBig}, {"emit 1 + " + n("-", 14) + "1;", 0, api.OK}, {"emit 1 + " + n("-", 15) + "1;", 1, api.ErrBig}, {"emit " + n("!", 15) + "1;", 0, api.OK}, {"emit " + n("!", 16) + "1;", 1, api.ErrBig},
		{"var a[1]; emit " + n("a[", 15) + "0" + n("]", 15) + ";", 0, api.OK}, {"var a[1]; emit " + n("a[", 16) + "0" + n("]", 16) + ";", 1, api.ErrBig},
		{"var a[1]; a[" + n("(", 15) + "0" + n(")", 15) + "] = " + n("(", 15) + "0" + n(")", 15) + ";", 0, api.OK},
		{"var a[1]; a[0] =\n" + n("(", 16) + "0" + n(")", 16) + ";", 2, api.ErrBig}, {"var a[1]; a[\n" + n("~", 16) + "0] = 1;", 2, api.ErrBig},
		{"emit " + n("(", 14) + "1 + 1" + n(")", 14) + ";", 0, api.OK}, {"emit " + n("(", 15) + "1 + 1" + n(")", 15) + ";", 1, api.ErrBig}, {"emit 1 || 1 && 1 | 1 ^ 1 & 1 == 1 < 1 << 1 + 1 * 1;", 0, api.OK},
		{"emit 1" + n(" + 1", 60) + ";", 0, api.OK}, {"emit " + n("(", 15) + "1" + n(" + 1)", 15) + ";", 1, api.ErrBig}, {"emit " + n("(", 14) + "1" + n(" + 1)", 14) + ";", 0, api.OK},
		{n("{", 16) + n("}", 16), 0, api.OK}, {n("{", 16) + "\n{" + n("}", 17), 2, api.ErrBig}, {n("if 1 {", 16) + n("}", 16), 0, api.OK}, {n("while 1 {", 16) + "\nwhile 1\n{" + n("}", 17), 3, api.ErrBig}, {n("{", 15) + "if 1 {} else {}" + n("}", 15), 0, api.OK}, {n("{", 16) + "if 1\n{} else\n{}" + n("}", 16), 2, api.ErrBig},
		{"if 1 {}" + n(" else if 1 {}", 40), 0, api.OK},
		{n("{", 17) + "\n" + deep(16) + n("}", 17), 1, api.ErrBig}, {deep(16) + "\n" + n("{", 17) + n("}", 17), 1, api.ErrBig}, {n("{", 16) + "\n" + deep(16) + "\n{}" + n("}", 16), 2, api.ErrBig},
		{n("emit 1;", 127) + "\n" + deep(16), 2, api.ErrBig}, {n("emit 1;", 127), 0, api.ErrBig}, {n("emit 1;", 126), 0, api.OK}, {n("emit 1;", 126) + "yield;", 0, api.OK}, {n("emit 1;", 126) + "yield;yield;", 0, api.ErrBig}, {n("emit 1;", 125) + "emit 32768;{}", 0, api.ErrBig}, {n("{}", 379), 0, api.OK}, {n("{}", 380), 0, api.ErrBig},
		{n(" ", 16384), 0, api.OK}, {n(" ", 16385), 0, api.ErrBig}, {n("?", 16385), 0, api.ErrBig}, {n("\n", 16383) + "?", 16384, api.ErrSource}, {n("(", 16384), 1, api.ErrSource}, {"emit " + n("(", 16379), 1, api.ErrSource}, {n("{", 8192) + n("}", 8192), 1, api.ErrBig}, {"if 1{}" + n("else if 1{}", 1488), 0, api.ErrBig}, {"emit " + n("-", 16377) + "1;", 1, api.ErrBig}, {"emit 1" + n("+1", 8188) + ";", 0, api.ErrBig}, {n("var a;", 2730), 1, api.ErrName}, {n("a", 16384), 1, api.ErrSource}, {n("1", 16384), 1, api.ErrSource},
	} {
		refused(t, c.source, c.line, c.code)
	}
}

// spoilt: tokens of which some are taken away, doubled, turned round, or become others.
func (d *dice) spoilt(tokens []string) []string {
	l := slices.Clone(tokens)
	for range 1 + d.below(3) {
		i := d.below(len(l) + 1)
		some := d.of("var", "if", "else", "while", "emit", "stop", "yield", "break", "continue", "ask", "a", "_", "nobody", "0", "7", "4294967296", "70000", "0x", "1a", "abcdefghijklmnopq", "||", "==", "<=", "<", "-", "!", "~", "=", ";", ";", "(", ")", "[", "]", "{", "}", "{", "}", "#", "\xff", "\r")
		switch d.below(5) {
		case 0:
			l = slices.Insert(l, i, some)
		case 1:
			l = slices.Insert(l, i, "{", "}")
		case 2:
			if i < len(l) {
				l[i] = some
			}
		case 3:
			l = slices.Delete(l, min(i, len(l)), min(i+1+d.below(2), len(l)))
		case 4:
			if j := d.below(len(l) + 1); i < len(l) && j < len(l) {
				l[i], l[j] = l[j], l[i]
			}
		}
	}
	return l
}

// misused: tokens of a program that is one still, but for its names and its size.
func (d *dice) misused(tokens []string) []string {
	l := slices.Clone(tokens)
	for range 1 + d.below(2) {
		i := d.below(len(l) + 1)
		for i < len(l) && kindOf(l[i]) != "name" && kindOf(l[i]) != "number" && l[i] != ";" {
			i++
		}
		if i == len(l) {
			l = append(l, "yield", ";")
			continue
		}
		end := append(strings.Fields(d.of("break ;", "continue ;", "while 1 { break ; }", "{ }", "x0 = 1 ;", "_ [ 0 ] = 1 ;")), l[i+1:]...)
		k := d.below(17)
		deep := slices.Concat(slices.Repeat([]string{"("}, k), l[i:i+1], slices.Repeat([]string{")"}, k))
		switch kind := kindOf(l[i]); {
		case kind == "name":
			l[i] = d.of("a", "_", "Zz9", "nobody", "x0")
		case kind == "number" && i > 3 && l[i-3] == "var":
			l[i] = d.of("1", "40", "60", "90", "4294967295")
		case kind == "number":
			l = slices.Replace(l, i, i+1, deep...)
		case d.one(3):
			l = append(strings.Fields(d.of("var a ;", "var x0 ;", "var yield ;", "var ask [ 2 ] ;", "var u [ 90 ] ;", "var w ;")), l...)
		case d.one(3):
			l = append(l, slices.Repeat([]string{"emit", "1", ";"}, 30+d.below(96))...)
		case d.one(3):
			k = 14 + d.below(4)
			l = slices.Concat(l, slices.Repeat([]string{"{"}, k), slices.Repeat([]string{"}"}, k))
		default:
			l = append(l[:i+1], end...)
		}
	}
	return l
}

// heap: tokens in no order, so that most are a program for some while only.
func (d *dice) heap() []string {
	l := strings.Fields(d.of("", "var a ;", "var a [ 3 ] ; var _ ;", "var a ; var if ;"))
	for range d.below(30) {
		e := d.of("1", "ask", "a", "a[1]", "_", "-1", "(1)", "1+2*3", "(((1)))", "a[_]", "70000", "nobody")
		l = append(l, d.of("{", "}", "{}", "emit "+e+";", "stop "+e+";", "if "+e+"{", "while "+e+"{", "}else{", "}else if "+e+"{", "a="+e+";", "a["+e+"]="+e+";", "break;", "continue;", "yield;", e, ";"))
	}
	return l
}

// TestRefusalsByTheModel: sources that are right, or no more, and heaps.
func TestRefusalsByTheModel(t *testing.T) {
	count := map[api.Errno]int{}
	whole := 0 // those whose code alone is too big
	for seed := range 5000 {
		d := dice(seed)
		var tokens []string
		switch seed % 4 {
		case 0:
			tokens = d.heap()
		case 1:
			tokens = d.spoilt(grown(&d).tokens())
		default:
			tokens = d.misused(grown(&d).tokens())
		}
		source := d.dressed(tokens)
		line, code := ruleRefuses(source)
		refused(t, source, line, code)
		if count[code]++; code == api.ErrBig && line == 0 {
			whole++
		}
		if t.Failed() {
			t.Fatalf("seed %d:\n%s", seed, source)
		}
	}
	if count[api.OK] < 1000 || count[api.ErrSource] < 1000 || count[api.ErrName] < 500 || count[api.ErrBig] < 300 || whole < 50 || whole > count[api.ErrBig]-200 {
		t.Errorf("too few of a kind: %v; %d", count, whole)
	}
}

// TestAnyBytes: bytes of few kinds, so that there are comments and signs of all sorts; and of all kinds.
func TestAnyBytes(t *testing.T) {
	kinds := "aaxif  \n\t0019_+-*/%!~&|^<>=()[]{};;/\r\xe2\x82#"
	for seed := range 20000 {
		d := dice(seed)
		b := make([]byte, d.below([]int{4, 12, 60}[d.below(3)]))
		for i := range b {
			b[i] = kinds[d.below(len(kinds))]
			if d.one(200) {
				b[i] = byte(d.below(256))
			}
		}
		source := d.of("", "", "var a; ", "emit ", "emit 1") + string(b)
		line, code := ruleRefuses(source)
		refused(t, source, line, code)
		if t.Failed() {
			t.Fatalf("seed %d: %q", seed, source)
		}
	}
}

// TestEveryByteAlone: each byte within a program, where a blank may stand.
func TestEveryByteAlone(t *testing.T) {
	for c := range 256 {
		for _, source := range []string{string([]byte{byte(c)}), "emit" + string([]byte{byte(c)}) + "1;", "emit 1" + string([]byte{byte(c)}) + "2;", "emit 1;//" + string([]byte{byte(c)}) + "1"} {
			line, code := ruleRefuses(source)
			refused(t, source, line, code)
		}
	}
}
