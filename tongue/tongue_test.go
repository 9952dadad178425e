package tongue_test

import (
	"reflect"
	"slices"
	"strings"
	"testing"

	"amber/api"
	"amber/isa"
	"amber/tongue"
)

// outs: calls with their words, in pairs.
func outs(pairs ...uint32) []api.Out {
	var l []api.Out
	for p := range slices.Chunk(pairs, 2) {
		l = append(l, api.Out{Call: int(p[0]), Value: p[1]})
	}
	return l
}

func same(a, b api.Meaning) bool {
	x, y := a.Outs, b.Outs
	a.Outs, b.Outs = nil, nil
	return slices.Equal(x, y) && reflect.DeepEqual(a, b)
}

func evaluated(t *testing.T, what, source string, answers []uint32, fuel int) api.Meaning {
	t.Helper()
	m, line, code := tongue.Eval(source, answers, fuel)
	if line != 0 || code != api.OK {
		t.Fatalf("%s: Eval(%q, %v, %d) is refused: %d, %d", what, source, answers, fuel, line, code)
	}
	return m
}

func means(t *testing.T, what, source string, answers []uint32, fuel int, want api.Meaning) {
	t.Helper()
	if m := evaluated(t, what, source, answers, fuel); !same(m, want) {
		t.Errorf("%s: Eval(%q, %v, %d) = %+v, want %+v", what, source, answers, fuel, m, want)
	}
}

// tells: a source that stops with code 0 emits these words.
func tells(t *testing.T, source string, words ...uint32) {
	t.Helper()
	var want []api.Out
	for _, w := range words {
		want = append(want, api.Out{Call: api.CallEmit, Value: w})
	}
	want = append(want, api.Out{Call: api.CallExit})
	m := evaluated(t, "P23.1", source, nil, 65536)
	if !slices.Equal(m.Outs, want) || m.State != api.Done || m.Code != 0 {
		t.Errorf("P23.1: Eval(%q) = %+v, want %v", source, m, want)
	}
}

func TestMeaningOfTheExamples(t *testing.T) {
	means(t, "P23.1", "emit 2 + 3 * 4;", nil, 9, api.Meaning{Outs: outs(14, 14, 1, 0), State: 3, Used: 1})
	means(t, "P23.1", "", nil, 0, api.Meaning{Outs: outs(1, 0), State: 3})
	means(t, "P23.1", "emit 7;", nil, 0, api.Meaning{State: 1})
	down := "var n; n = 3; while n { emit n; n = n - 1; } stop 9;"
	means(t, "P23.1", down, nil, 100, api.Meaning{Outs: outs(14, 3, 14, 2, 14, 1, 1, 9), State: 3, Code: 9, Used: 13})
	means(t, "P23.1", down, nil, 13, api.Meaning{Outs: outs(14, 3, 14, 2, 14, 1, 1, 9), State: 3, Code: 9, Used: 13})
	means(t, "P23.1", down, nil, 12, api.Meaning{Outs: outs(14, 3, 14, 2, 14, 1), State: 1, Used: 12})
	means(t, "P23.1", down, nil, 5, api.Meaning{Outs: outs(14, 3), State: 1, Used: 5})
	index := "var a[3]; a[ask] = ask; emit a[1];"
	means(t, "P23.1", index, []uint32{1, 5}, 9, api.Meaning{Outs: outs(24, 1, 24, 5, 14, 5, 1, 0), State: 3, Taken: 2, Used: 4})
	means(t, "P23.1", index, []uint32{7}, 9, api.Meaning{Outs: outs(24, 7, 1, api.MaxWord), State: 3, Code: api.MaxWord, Taken: 1, Used: 2})
	means(t, "P23.1", index, []uint32{7, 8}, 9, api.Meaning{Outs: outs(24, 7, 1, api.MaxWord), State: 3, Code: api.MaxWord, Taken: 1, Used: 2})
	means(t, "P23.1", index, nil, 9, api.Meaning{Outs: outs(24, 0, 24, 0, 14, 0, 1, 0), State: 3, Used: 4})
	means(t, "P23.1", "emit 1 / ask;", nil, 9, api.Meaning{Outs: outs(24, 0), State: 4, Code: 73, Used: 2})
	means(t, "P23.1", "emit 0 && 1 / 0; emit 2 || 1 / 0; emit 0xff << 32; emit -1 > 1;", nil, 9, api.Meaning{Outs: outs(14, 0, 14, 1, 14, 0, 14, 1, 1, 0), State: 3, Used: 4})
}

func TestEveryOperator(t *testing.T) {
	const top = api.MaxWord
	tells(t, "emit 4294967295 + 1; emit 0 - 1; emit 65536 * 65536; emit 65537 * 65537;", 0, top, 0, 131073)
	tells(t, "emit 7 / 2; emit 4294967295 / 2; emit 7 % 4; emit 4294967295 % 10; emit 3 / 4294967295;", 3, 2147483647, 3, 5, 0)
	tells(t, "emit 12 & 10; emit 12 | 10; emit 12 ^ 10;", 8, 14, 6)
	tells(t, "emit 1 << 31; emit 1 << 32; emit 1 << 4294967295; emit 3 << 0;", 1<<31, 0, 0, 3)
	tells(t, "emit 4294967295 >> 31; emit 4294967295 >> 32; emit 1 >> 4294967295; emit 3 >> 0;", 1, 0, 0, 3)
	tells(t, "emit 1 == 1; emit 1 == 2; emit 1 != 1; emit 1 != 2;", 1, 0, 0, 1)
	tells(t, "emit 1 < 2; emit 2 < 2; emit 3 < 2; emit 4294967295 < 0;", 1, 0, 0, 0)
	tells(t, "emit 1 <= 2; emit 2 <= 2; emit 3 <= 2; emit 4294967295 <= 0;", 1, 1, 0, 0)
	tells(t, "emit 1 > 2; emit 2 > 2; emit 3 > 2; emit 4294967295 > 0;", 0, 0, 1, 1)
	tells(t, "emit 1 >= 2; emit 2 >= 2; emit 3 >= 2; emit 4294967295 >= 0;", 0, 1, 1, 1)
	tells(t, "emit 0 && 0; emit 0 && 5; emit 5 && 0; emit 5 && 6;", 0, 0, 0, 1)
	tells(t, "emit 0 || 0; emit 0 || 5; emit 5 || 0; emit 5 || 6;", 0, 1, 1, 1)
	tells(t, "emit -1; emit -0; emit ~0; emit ~1; emit !0; emit !1; emit !7; emit --3; emit !!9; emit -~!0;", top, 0, top, top-1, 1, 0, 0, 3, 1, 2)
	for _, source := range []string{"emit 1 / 0;", "emit 0 / 0;", "emit 1 % 0;", "stop 1 / (1 - 1);"} {
		means(t, "P23.1", source, nil, 9, api.Meaning{State: 4, Code: 73, Used: 1})
	}
}

// TestLevels: each operator beside one of the next tighter level, on both sides, and beside one of its own.
func TestLevels(t *testing.T) {
	tells(t, "emit 1 || 0 && 0; emit 0 && 0 || 1;", 1, 1)
	tells(t, "emit 2 && 0 | 1; emit 1 | 2 && 0;", 1, 0)
	tells(t, "emit 1 | 1 ^ 1; emit 1 ^ 1 | 1;", 1, 1)
	tells(t, "emit 1 ^ 3 & 2; emit 2 & 3 ^ 1;", 3, 3)
	tells(t, "emit 2 & 2 == 2; emit 2 == 2 & 2;", 0, 0)
	tells(t, "emit 0 == 3 < 2; emit 5 < 2 != 1;", 1, 1)
	tells(t, "emit 1 < 1 << 1; emit 1 << 1 < 3;", 1, 1)
	tells(t, "emit 1 << 1 + 1; emit 1 + 1 << 1;", 4, 4)
	tells(t, "emit 2 + 3 * 4; emit 2 * 3 + 4;", 14, 10)
	tells(t, "emit 9 - 3 - 2; emit 9 - (3 - 2); emit 100 / 10 / 5; emit 100 / (10 / 5); emit 17 % 10 % 4; emit 2 * 7 / 3; emit 7 / 3 * 2;", 4, 8, 2, 50, 3, 4, 4)
	tells(t, "emit 1 << 2 << 3; emit 256 >> 2 << 1; emit 3 > 2 > 1; emit 1 == 1 == 0; emit 5 != 5 == 0;", 32, 128, 0, 0, 1)
	tells(t, "emit -2 + 3; emit -(2 + 3); emit !0 == 0; emit !(0 == 0); emit ~1 & 3; emit ~(1 & 3);", 1, 4294967291, 0, 0, 2, 4294967294)
}

func TestOrderOfDoing(t *testing.T) {
	means(t, "P23.1", "emit ask - ask;", []uint32{9, 2, 5}, 99, api.Meaning{Outs: outs(24, 9, 24, 2, 14, 7, 1, 0), State: 3, Taken: 2, Used: 3})
	means(t, "P23.1", "emit ask && ask; emit ask || ask;", []uint32{0, 4}, 99, api.Meaning{Outs: outs(24, 0, 14, 0, 24, 4, 14, 1, 1, 0), State: 3, Taken: 2, Used: 4})
	means(t, "P23.1", "emit ask && ask; emit ask || ask;", []uint32{4, 5, 0, 6}, 99, api.Meaning{Outs: outs(24, 4, 24, 5, 14, 1, 24, 0, 24, 6, 14, 1, 1, 0), State: 3, Taken: 4, Used: 6})
	means(t, "P23.1", "var a[2]; emit a[ask] / ask;", []uint32{2, 0}, 99, api.Meaning{Outs: outs(24, 2, 1, api.MaxWord), State: 3, Code: api.MaxWord, Taken: 1, Used: 2})
	means(t, "P23.1", "var a[2]; a[1 / 0] = ask;", []uint32{2}, 99, api.Meaning{State: 4, Code: 73, Used: 1})
	means(t, "P23.1", "var a[2]; a[0] = a[2];", nil, 99, api.Meaning{Outs: outs(1, api.MaxWord), State: 3, Code: api.MaxWord, Used: 1})
	means(t, "P23.1", "var a[1]; a[0] = 5; emit a[0]; a[-1] = 6; emit 7;", nil, 99, api.Meaning{Outs: outs(14, 5, 1, api.MaxWord), State: 3, Code: api.MaxWord, Used: 3})
	means(t, "P23.1", "var a[2]; var b[2]; a[1] = 3; b[0] = 4; a[b[0] - 4] = a[1]; emit a[0] * 100 + a[1] * 10 + b[0]; emit b[1];", nil, 99, api.Meaning{Outs: outs(14, 334, 14, 0, 1, 0), State: 3, Used: 5})
}

func TestLoopsAndChoices(t *testing.T) {
	tells(t, "var i; while i < 5 { i = i + 1; if i == 2 { continue; } if i == 4 { break; } emit i; } emit 9;", 1, 3, 9)
	tells(t, "var i; var j; while i < 2 { j = 0; while 1 { j = j + 1; if j > 2 { break; } { { continue; } } emit 8; } i = i + 1; emit j; }", 3, 3)
	tells(t, "if 0 { emit 1; } if 7 { emit 2; } if 0 { emit 3; } else { emit 4; } if 0 { } else if 0 { emit 5; } else if 1 { emit 6; } else { emit 7; }", 2, 4, 6)
	tells(t, "while 0 { emit 1; } { emit 2; { } emit 3; }", 2, 3)
	means(t, "P23.1", "yield; stop 3; emit 4;", nil, 99, api.Meaning{Outs: outs(0, 0, 1, 3), State: 3, Code: 3, Used: 2})
	means(t, "P23.1", "while 1 { stop ask; }", []uint32{api.MaxWord}, 99, api.Meaning{Outs: outs(24, api.MaxWord, 1, api.MaxWord), State: 3, Code: api.MaxWord, Taken: 1, Used: 4})
}

// TestFuel: what a unit is spent for, and that a program rests just where the next would be.
func TestFuel(t *testing.T) {
	for _, c := range []struct {
		source string
		used   int
	}{
		{"", 0}, {"{ { } }", 0}, {"yield;", 1}, {"{ yield; }", 1}, {"var x; x = 1;", 1}, {"var x[1]; x[0] = 1;", 1},
		{"if 0 { yield; }", 1}, {"if 1 { yield; }", 2}, {"if 0 { } else { yield; }", 2}, {"if 0 { } else if 0 { }", 2}, {"if 0 { } else if 0 { } else { yield; }", 3},
		{"while 0 { }", 2}, {"while 1 { break; }", 3}, {"var i; while i < 2 { i = i + 1; continue; }", 8},
		{"emit ask;", 2}, {"emit ask + ask;", 3}, {"emit 0 && ask;", 1}, {"while ask { }", 3}, {"stop 1;", 1}, {"stop ask; yield;", 2},
	} {
		full := evaluated(t, "P23.1", c.source, nil, 99)
		if full.Used != c.used || full.State != api.Done {
			t.Errorf("P23.1: %q has used %d and is in state %d, want %d", c.source, full.Used, full.State, c.used)
		}
		means(t, "P23.5", c.source, nil, c.used, full)
		for fuel := range c.used {
			m := evaluated(t, "P23.1", c.source, nil, fuel)
			if m.State != api.Ready || m.Code != 0 || m.Used != fuel {
				t.Errorf("P23.1: %q with fuel %d: %+v", c.source, fuel, m)
			}
		}
	}
	means(t, "P23.1", "while 1 { }", nil, 65536, api.Meaning{State: 1, Used: 65536})
	for _, fuel := range []int{-1, 65537, -1 << 63, 1<<63 - 1} {
		for _, source := range []string{"", "?", strings.Repeat(" ", 16385)} {
			if m, line, code := tongue.Eval(source, nil, fuel); !same(m, api.Meaning{}) || line != 0 || code != api.ErrArg {
				t.Errorf("P23.1: Eval with fuel %d: %+v, %d, %d", fuel, m, line, code)
			}
		}
	}
}

func TestCodeOfTheExamples(t *testing.T) {
	const end = "li r1, 0\nsys 1\nli r1, -1\nsys 1\n"
	for source, want := range map[string]string{
		"":                                "li r7, 0\n",
		"var x; while ask { x = 70000; }": "li r7, 0\nsys 24\nmov r4, r1\njz r4, 4\nli r4, 4464\nhi r4, 1\nst r4, r7, 384\njmp -7\n",
		"var a[2]; emit 5 - a[ask];":      "li r7, 0\nli r4, 5\nst r4, r7, 480\nsys 24\nmov r4, r1\nli r5, 2\nmov r6, r4\nlt r6, r5\njz r6, 8\nld r4, r4, 384\nmov r5, r4\nld r4, r7, 480\nsub r4, r5\nmov r1, r4\nsys 14\n",
		"emit 32767; emit 32768;":         "li r7, 0\nli r4, 32767\nmov r1, r4\nsys 14\nli r4, -32768\nhi r4, 0\nmov r1, r4\nsys 14\n",
		"stop 4294967295; emit 65536;":    "li r7, 0\nli r4, -1\nhi r4, 65535\nmov r1, r4\nsys 1\nli r4, 0\nhi r4, 1\nmov r1, r4\nsys 14\n",
		"{ } yield; if 1 { } else { }":    "li r7, 0\nnop\nsys 0\nli r4, 1\njz r4, 1\njmp 0\n",
	} {
		text, line, code := tongue.Listing(source)
		if text != want+end || line != 0 || code != api.OK {
			t.Errorf("P23.1: Listing(%q) = %q, %d, %d, want %q", source, text, line, code, want+end)
		}
		words, line, code := tongue.Compile(source)
		again, _, _ := isa.Assemble(want + end)
		if !slices.Equal(words, again) || line != 0 || code != api.OK {
			t.Errorf("P23.1: Compile(%q) = %v, %d, %d, want %v", source, words, line, code, again)
		}
	}
}

func TestPlainFormOfTheExamples(t *testing.T) {
	for source, want := range map[string]string{
		"var a[0x2];a[0]=(1+2)*3-(4-5);if(a[1]){}else if 1{yield;}//x": "var a[2];\na[0] = (1 + 2) * 3 - (4 - 5);\nif a[1] {\n} else if 1 {\n\tyield;\n}\n",
		"emit -(1+2)*!~3;":                          "emit -(1 + 2) * !~3;\n",
		"emit (1*2)+(3);":                           "emit 1 * 2 + 3;\n",
		"// x":                                      "",
		"emit 007;emit 0xff;emit 00000;":            "emit 7;\nemit 255;\nemit 0;\n",
		"emit -(-(1));emit (-1)+(!(2));":            "emit --1;\nemit -1 + !2;\n",
		"var v;v=((v));{v=(1)-(2)-(3);}":            "var v;\nv = v;\n{\n\tv = 1 - 2 - 3;\n}\n",
		"emit 1-(2*3);emit (1-2)*3;":                "emit 1 - 2 * 3;\nemit (1 - 2) * 3;\n",
		"emit 1-(2+3);emit (1||2)&&3;":              "emit 1 - (2 + 3);\nemit (1 || 2) && 3;\n",
		"var a[1];emit a[(1+a[0])]/(2%3);":          "var a[1];\nemit a[1 + a[0]] / (2 % 3);\n",
		"while(ask){if 0{break;}else{{}continue;}}": "while ask {\n\tif 0 {\n\t\tbreak;\n\t} else {\n\t\t{\n\t\t}\n\t\tcontinue;\n\t}\n}\n",
	} {
		text, line, code := tongue.Format(source)
		if text != want || line != 0 || code != api.OK {
			t.Errorf("P23.1: Format(%q) = %q, %d, %d, want %q", source, text, line, code, want)
		}
		if again, _, _ := tongue.Format(want); again != want {
			t.Errorf("P23.4: Format(%q) = %q", want, again)
		}
	}
}

func TestData(t *testing.T) {
	for _, c := range []struct {
		source string
		names  []string
		places []int
	}{
		{"", nil, nil},
		{"var a; var b[5]; var c;", []string{"a", "b", "c"}, []int{384, 385, 390}},
		{"var _; var A[1]; var a1[94];", []string{"_", "A", "a1"}, []int{384, 385, 386}},
		{"var z[96]; z[0] = 1;", []string{"z"}, []int{384}},
	} {
		names, places, code := tongue.Data(c.source)
		if !slices.Equal(names, c.names) || !slices.Equal(places, c.places) || code != api.OK {
			t.Errorf("P23.1: Data(%q) = %v, %v, %d", c.source, names, places, code)
		}
	}
}
