package tongue_test

import (
	"slices"
	"strconv"
	"strings"

	"amber/api"
)

// The rules of chapter 23 once more, over bytes and tokens alone: no tree is built. The grammar is a stack of what must come; depth is found by operators that wait for their right sides; the code is counted token by token.

type piece struct {
	text string
	line int
}

const (
	pieceEnd = "end"  // the text's own; no token has this kind
	pieceBad = "none" // no token
)

func runByte(c byte) bool {
	return c == '_' || c >= '0' && c <= '9' || c|32 >= 'a' && c|32 <= 'z'
}

// pieces cuts a text byte by byte. The last piece is the end, or the first place where no token is; its text says which, with a blank ahead, so that it is like no token.
func pieces(source string) []piece {
	var l []piece
	line := 1
	for i := 0; i < len(source); {
		c := source[i]
		two := source[i:min(i+2, len(source))]
		switch {
		case c == 10:
			line++
			i++
		case c == 32 || c == 9:
			i++
		case two == "//":
			for i < len(source) && source[i] != 10 {
				i++
			}
		case runByte(c):
			j := i
			for j < len(source) && runByte(source[j]) {
				j++
			}
			l = append(l, piece{source[i:j], line})
			if kindOf(source[i:j]) == pieceBad {
				return append(l[:len(l)-1], piece{" " + pieceBad, line})
			}
			i = j
		case slices.Contains(strings.Fields("|| && == != <= >= << >>"), two):
			l = append(l, piece{two, line})
			i += 2
		case slices.Contains(strings.Fields("| ^ & < > + - * / % ! ~ = ; ( ) [ ] { }"), source[i:i+1]):
			l = append(l, piece{source[i : i+1], line})
			i++
		default:
			return append(l, piece{" " + pieceBad, line})
		}
	}
	return append(l, piece{" " + pieceEnd, line})
}

// kindOf: a word of the language and a sign are their own kinds; a number, a name, no token.
func kindOf(text string) string {
	switch {
	case !runByte(text[0]):
		return strings.TrimSpace(text)
	case slices.Contains(strings.Fields("var if else while emit stop yield break continue ask"), text):
		return text
	case strings.Trim(text, "0123456789") == "":
		if n, err := strconv.ParseUint(text, 10, 32); err == nil && n <= api.MaxWord && len(text) <= 10 {
			return "number"
		}
	case strings.HasPrefix(text, "0x"):
		if digits := text[2:]; len(digits) >= 1 && len(digits) <= 8 && strings.Trim(digits, "0123456789abcdef") == "" {
			return "number"
		}
	case len(text) <= 16 && (text[0] < '0' || text[0] > '9'):
		return "name"
	}
	return pieceBad
}

func valueOf(number string) uint32 {
	base := 10
	if strings.HasPrefix(number, "0x") {
		number, base = number[2:], 16
	}
	n, _ := strconv.ParseUint(number, base, 64)
	return uint32(n)
}

var levels = map[string]int{"||": 1, "&&": 2, "|": 3, "^": 4, "&": 5, "==": 6, "!=": 6, "<": 7, "<=": 7, ">": 7, ">=": 7, "<<": 8, ">>": 8, "+": 9, "-": 9, "*": 10, "/": 10, "%": 10}

// expand: what a part of the grammar becomes at a token of this kind, parted by blanks; false, where it can't go on so.
func expand(part, kind string) (string, bool) {
	switch part {
	case "program":
		if kind == "var" {
			return "var declared size ; program", true
		}
		return "statements end", true
	case "declared":
		return kind, kind == "name" || slices.Contains(strings.Fields("var if else while emit stop yield break continue ask"), kind)
	case "size":
		if kind == "[" {
			return "[ count ]", true
		}
		return "", true
	case "statements":
		switch kind {
		case "if", "{":
			return map[string]string{"if": "choice statements", "{": "block statements"}[kind], true
		case "name":
			return "name index = expr ; statements", true
		case "while":
			return "while expr block statements", true
		case "emit", "stop":
			return kind + " expr ; statements", true
		case "yield", "break", "continue":
			return kind + " ; statements", true
		}
		return "", true
	case "choice":
		return "if expr block rest", true
	case "rest":
		if kind == "else" {
			return "else other", true
		}
		return "", true
	case "other":
		return map[bool]string{true: "choice", false: "block"}[kind == "if"], true
	case "block":
		return "{ statements }", true
	case "index":
		if kind == "[" {
			return "[ expr ]", true
		}
		return "", true
	case "expr":
		return "operand more", true
	case "more":
		if levels[kind] > 0 {
			return kind + " operand more", true
		}
		return "", true
	case "operand":
		switch kind {
		case "-", "!", "~":
			return kind + " operand", true
		case "number", "ask":
			return kind, true
		case "name":
			return "name index", true
		case "(":
			return "( expr )", true
		}
	}
	return "", false
}

// formFault: the place of the first piece with which no program goes on; -1, if it is one.
func formFault(l []piece) int {
	wanted := []string{"program"}
	for i, p := range l {
		kind := kindOf(p.text)
		if kind == pieceBad {
			return i
		}
		for {
			top := wanted[len(wanted)-1]
			wanted = wanted[:len(wanted)-1]
			if top == "count" && kind == "number" && valueOf(p.text) > 0 || top == kind && top != "count" {
				break
			}
			parts, ok := expand(top, kind)
			if !ok {
				return i
			}
			fields := strings.Fields(parts)
			slices.Reverse(fields)
			wanted = append(wanted, fields...)
		}
	}
	return -1
}

// declaredUpTo: the sizes of the declared names (0: without brackets), and where the statements begin.
func declaredUpTo(l []piece, each func(name piece, words int, twice bool)) (map[string]int, int) {
	sizes := map[string]int{}
	i := 0
	for l[i].text == "var" {
		name := l[i+1]
		_, twice := sizes[name.text]
		sizes[name.text] = 0
		i += 3
		words := 1
		if l[i-1].text == "[" {
			words = int(valueOf(l[i].text))
			sizes[name.text] = words
			i += 3
		}
		each(name, words, twice)
	}
	return sizes, i
}

// nameAndDataFaults: the first line of each; 0, if there is none.
func nameAndDataFaults(l []piece) (int, int) {
	names, data, words := 0, 0, 0
	note := func(fault *int, line int) {
		if *fault == 0 {
			*fault = line
		}
	}
	sizes, from := declaredUpTo(l, func(name piece, n int, twice bool) {
		if twice || kindOf(name.text) != "name" {
			note(&names, name.line)
		}
		if words += n; words > 96 {
			note(&data, name.line)
		}
	})
	var blocks []bool // those of a while
	loop := false
	for i, p := range l[from:] {
		switch kind := kindOf(p.text); kind {
		case "while", "if", "else":
			loop = kind == "while"
		case "{":
			blocks = append(blocks, loop)
			loop = false
		case "}":
			blocks = blocks[:len(blocks)-1]
		case "break", "continue":
			if !slices.Contains(blocks, true) {
				note(&names, p.line)
			}
		case "name":
			size, known := sizes[p.text]
			if !known || (size > 0) != (l[from+i+1].text == "[") {
				note(&names, p.line)
			}
		}
	}
	return names, data
}

// depthFault: the line of the first block or expression that is too deep.
func depthFault(l []piece) int {
	_, from := declaredUpTo(l, func(piece, int, bool) {})
	blocks := 0
	for i := from; i < len(l); i++ {
		begins := false
		switch kind := kindOf(l[i].text); kind {
		case "{":
			if blocks++; blocks > 16 {
				return l[i].line
			}
		case "}":
			blocks--
		case "if", "while", "emit", "stop", "=", "[":
			begins = true
		}
		if begins {
			deep, end := depthFrom(l, i+1)
			if deep > 16 {
				return l[i+1].line
			}
			i = end - 1
		}
	}
	return 0
}

// waiting: an operator, a sign or an open bracket that waits for what stands on its right.
type waiting struct {
	text  string
	level int // 11: a sign; 0: a bracket
}

// depthFrom: the depth of the expression that begins at a place, and the place behind it.
func depthFrom(l []piece, i int) (int, int) {
	var ops []waiting
	var depths []int
	brackets := 0
	pop := func() {
		op, n := ops[len(ops)-1], len(depths)
		ops = ops[:len(ops)-1]
		if op.level == 11 || op.level == 0 {
			depths[n-1]++
			return
		}
		depths[n-2] = max(depths[n-2], 1+depths[n-1])
		depths = depths[:n-1]
	}
	operand := true
	for ; ; i++ {
		kind := kindOf(l[i].text)
		switch {
		case operand && (kind == "number" || kind == "ask" || kind == "name"):
			if operand = false; l[i+1].text != "[" || kind != "name" {
				depths = append(depths, 1)
			}
		case operand && kind != "(":
			ops = append(ops, waiting{kind, 11})
		case kind == "(" || kind == "[":
			ops = append(ops, waiting{kind, 0})
			operand = true
			brackets++
		case levels[kind] > 0:
			for len(ops) > 0 && ops[len(ops)-1].level >= levels[kind] {
				pop()
			}
			ops = append(ops, waiting{kind, levels[kind]})
			operand = true
		case brackets > 0: // ) or ]
			for ops[len(ops)-1].level > 0 {
				pop()
			}
			pop()
			brackets--
		default:
			for len(ops) > 0 {
				pop()
			}
			return depths[0], i
		}
	}
}

// size: how many words the code has.
func size(l []piece) int {
	_, from := declaredUpTo(l, func(piece, int, bool) {})
	sum := 5
	ahead := ";"   // what stands ahead of a token
	bound := false // a "{" that comes is that of an if, an else or a while
	for i := from; i < len(l); i++ {
		kind := kindOf(l[i].text)
		prefix := levels[ahead] > 0 || slices.Contains(strings.Fields("( [ = ! ~ if while emit stop"), ahead)
		switch kind {
		case "number":
			sum++
			if valueOf(l[i].text) > 32767 {
				sum++
			}
		case "ask", "emit", "stop", "while":
			sum += 2
		case "name", "yield", "break", "continue", "if", "else":
			sum++ // of an assignment the name is its store
		case "[":
			if sum += 4; slices.Contains([]string{";", "{", "}"}, beforeName(l, i, from)) {
				sum += 2 // of an assignment
			}
		case "{":
			if !bound {
				sum++
			}
		case "!":
			sum++
		case "~":
			sum += 2
		case "||", "&&", "!=", ">=", ">":
			sum += 5
		case "<=":
			sum += 6
		case "-":
			if sum += 4; prefix {
				sum--
			}
		default:
			if levels[kind] > 0 {
				sum += 4
			}
		}
		if kind == "if" || kind == "while" || kind == "else" {
			bound = true
		} else if kind == "{" {
			bound = false
		}
		ahead = kind
	}
	return sum
}

// beforeName: what stands ahead of the name ahead of the bracket at i.
func beforeName(l []piece, i, from int) string {
	if i-2 < from {
		return ";"
	}
	return l[i-2].text
}

// ruleRefuses: the line and the error of a text's first fault.
func ruleRefuses(source string) (int, api.Errno) {
	if len(source) > 16384 {
		return 0, api.ErrBig
	}
	l := pieces(source)
	if at := formFault(l); at >= 0 {
		return l[at].line, api.ErrSource
	}
	names, data := nameAndDataFaults(l)
	if names > 0 {
		return names, api.ErrName
	}
	if data > 0 {
		return data, api.ErrBig
	}
	if line := depthFault(l); line > 0 {
		return line, api.ErrBig
	}
	if size(l) > 384 {
		return 0, api.ErrBig
	}
	return 0, api.OK
}

type dice uint64

func (d *dice) below(n int) int {
	*d = *d*6364136223846793005 + 1442695040888963407
	return int(uint64(*d)>>33) % n
}

func (d *dice) of(l ...string) string { return l[d.below(len(l))] }

// one tells something that happens once in n times.
func (d *dice) one(n int) bool { return d.below(n) == 0 }

// word: any, those at the edges often.
func (d *dice) word() uint32 {
	w := uint32(d.below(1<<16))<<16 | uint32(d.below(1<<16))
	return []uint32{0, 1, 2, uint32(d.below(9)), uint32(d.below(99)), 31, 32, 33, 32767, 32768, 65535, 65536, 1 << 31, 1<<32 - 1, w}[d.below(15)]
}

// words: n at most.
func (d *dice) words(n int) []uint32 {
	var l []uint32
	for range d.below(n + 1) {
		l = append(l, d.word())
	}
	return l
}
