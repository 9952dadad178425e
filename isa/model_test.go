package isa_test

import (
	"regexp"
	"slices"
	"strconv"
	"strings"

	"amber/api"
)

// dice: numbers by a fixed rule, so that each run of the test is the same.
type dice uint64

func (d *dice) below(n int) int {
	*d = *d*6364136223846793005 + 1442695040888963407
	return int(uint64(*d)>>33) % n
}

// word: small ones, great ones and any, so that edges are met.
func (d *dice) word() uint32 {
	switch d.below(4) {
	case 0:
		return edges[d.below(len(edges))]
	case 1:
		return uint32(d.below(40))
	}
	return uint32(d.below(1<<16))<<16 | uint32(d.below(1<<16))
}

func (d *dice) of(l ...string) string { return l[d.below(len(l))] }

// instr: any instruction of the table.
func (d *dice) instr() api.Instr {
	op := 1 + d.below(26)
	r := chapter[op]
	low, high := r.imms()
	return api.Instr{Op: op, A: d.below(r.registers("a")), B: d.below(r.registers("b")), Imm: low + d.below(high-low+1)}
}

// words: instructions, words near them, and any.
func (d *dice) words(n int) []uint32 {
	l := make([]uint32, n)
	for k := range l {
		switch d.below(4) {
		case 0:
			l[k] = d.word()
		case 1:
			l[k] = wordOf(d.instr()) ^ 1<<d.below(32)
		default:
			l[k] = wordOf(d.instr())
		}
	}
	return l
}

// What follows is the chapter's section on a program's text, told once more by patterns.
var (
	labelForm    = regexp.MustCompile(`^[A-Za-z_][A-Za-z0-9_]*$`)
	numberForm   = regexp.MustCompile(`^-?([0-9]{1,10}|0x[0-9a-f]{1,8})$`)
	registerForm = regexp.MustCompile(`^r[0-7]$`)
	labelled     = regexp.MustCompile(`(?s)^([^:]*):(.*)$`)
	statement    = regexp.MustCompile(`(?s)^([^ \t]+)[ \t]*(.*)$`)
)

// source: a line of a program's text.
type source struct {
	ok     bool
	label  string
	name   string
	fields []string
}

func trim(s string) string { return strings.Trim(s, " \t") }

func readSource(text string) source {
	text, _, _ = strings.Cut(text, ";")
	text = trim(text)
	s := source{ok: true}
	if m := labelled.FindStringSubmatch(text); m != nil {
		if !labelForm.MatchString(m[1]) {
			return source{}
		}
		s.label, text = m[1], trim(m[2])
	}
	if m := statement.FindStringSubmatch(text); m != nil {
		s.name = m[1]
		if rest := trim(m[2]); rest != "" {
			for f := range strings.SplitSeq(rest, ",") {
				s.fields = append(s.fields, trim(f))
			}
		}
		s.ok = s.formed()
	}
	return s
}

func numeral(s string, low, high int64) bool {
	if !numberForm.MatchString(s) {
		return false
	}
	n := valueOf(s)
	return low <= n && n <= high
}

func valueOf(s string) int64 {
	sign := int64(1)
	if s[0] == '-' {
		sign, s = -1, s[1:]
	}
	base := 10
	if strings.HasPrefix(s, "0x") {
		base, s = 16, s[2:]
	}
	n, err := strconv.ParseInt(s, base, 64)
	if err != nil {
		panic(err)
	}
	return sign * n
}

// operation is the number of the statement's operation, or -1.
func (s source) operation() int {
	return slices.IndexFunc(chapter, func(r row) bool { return r.name != "" && r.name == s.name })
}

func (s source) formed() bool {
	switch s.name {
	case ".word":
		return len(s.fields) == 1 && (labelForm.MatchString(s.fields[0]) || numeral(s.fields[0], -2147483648, 4294967295))
	case ".zero":
		return len(s.fields) == 1 && numeral(s.fields[0], 0, 512)
	}
	op := s.operation()
	if op < 0 || len(s.fields) != len(chapter[op].uses) {
		return false
	}
	low, high := chapter[op].imms()
	for k, use := range chapter[op].uses {
		f := s.fields[k]
		if use == 'a' || use == 'b' {
			if !registerForm.MatchString(f) {
				return false
			}
		} else if !labelForm.MatchString(f) && !numeral(f, int64(low), int64(high)) {
			return false
		}
	}
	return true
}

// named is the label in a field, or "".
func (s source) named() string {
	if !s.ok || len(s.fields) == 0 {
		return ""
	}
	last := s.fields[len(s.fields)-1]
	op := s.operation()
	if s.name == ".word" || op > 0 && (chapter[op].has("i") || chapter[op].has("u")) {
		if labelForm.MatchString(last) {
			return last
		}
	}
	return ""
}

func (s source) size() int {
	switch {
	case !s.ok || s.name == "":
		return 0
	case s.name == ".zero":
		return int(valueOf(s.fields[0]))
	}
	return 1
}

// gives are the words of a line without fault, at this address.
func (s source) gives(at int, labels map[string]int) []uint32 {
	imm := int64(0)
	if name := s.named(); name != "" {
		imm = int64(labels[name])
		if slices.Contains([]string{"jmp", "jz", "jnz", "call"}, s.name) {
			imm -= int64(at) + 1
		}
	} else if len(s.fields) > 0 && numberForm.MatchString(s.fields[len(s.fields)-1]) {
		imm = valueOf(s.fields[len(s.fields)-1])
	}
	switch s.name {
	case "":
		return nil
	case ".zero":
		return make([]uint32, imm)
	case ".word":
		return []uint32{uint32((imm + 1<<32) % (1 << 32))}
	}
	i := api.Instr{Op: s.operation(), Imm: int(imm)}
	for k, use := range chapter[i.Op].uses {
		switch use {
		case 'a':
			i.A = int(s.fields[k][1] - '0')
		case 'b':
			i.B = int(s.fields[k][1] - '0')
		}
	}
	return []uint32{wordOf(i)}
}

// assembled is what the chapter says that Assemble answers.
func assembled(text string) ([]uint32, int, api.Errno) {
	if len(text) > 16384 {
		return nil, 0, 41
	}
	var sources []source
	labels := map[string]int{}
	words := 0
	for line := range strings.SplitSeq(text, "\n") {
		s := readSource(line)
		if _, there := labels[s.label]; s.label != "" && !there {
			labels[s.label] = words
		}
		words += s.size()
		sources = append(sources, s)
	}
	var out []uint32
	for k, s := range sources {
		_, there := labels[s.named()]
		twice := s.label != "" && slices.ContainsFunc(sources[:k], func(q source) bool { return q.label == s.label })
		switch {
		case !s.ok:
			return nil, k + 1, 71
		case twice || s.named() != "" && !there:
			return nil, k + 1, 72
		case len(out)+s.size() > 512:
			return nil, k + 1, 2
		}
		out = append(out, s.gives(len(out), labels)...)
	}
	return out, 0, 0
}
