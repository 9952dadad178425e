package amber

import (
	"strings"

	"amber/api"
)

// Limits of scripts and of what stands in a line.
const (
	maxScript  = 65536
	maxLines   = 512
	maxLine    = 4096
	maxDigits  = 10
	maxName    = 8
	maxData    = 256 // digits, two a byte
	maxBits    = 512
	maxAnswers = 64 // of a meaning
)

// blanks part the tokens of a line.
const blanks = " \t"

// cut tells a script's lines, if they are within the limits.
func cut(script string) ([]string, bool) {
	if len(script) > maxScript {
		return nil, false
	}
	lines := strings.Split(script, "\n")
	if last := len(lines) - 1; lines[last] == "" {
		lines = lines[:last]
	}
	return lines, len(lines) <= maxLines
}

// arguments: what of a line is not read yet, and whether something that was read had not the form that was asked for.
type arguments struct {
	rest  string
	wrong bool
}

// token takes the next one; "" where the line is at its end.
func (a *arguments) token() string {
	a.rest = strings.TrimLeft(a.rest, blanks)
	end := len(a.rest)
	for i, r := range a.rest {
		if r == ' ' || r == '\t' {
			end = i
			break
		}
	}
	t := a.rest[:end]
	a.rest = a.rest[end:]
	return t
}

// text takes all that is left behind the next blanks, blanks at its end too.
func (a *arguments) text() string {
	t := strings.TrimLeft(a.rest, blanks)
	a.rest = ""
	return t
}

// hold: what is not ok makes the whole line wrong.
func (a *arguments) hold(ok bool) { a.wrong = a.wrong || !ok }

func (a *arguments) number() int {
	n, ok := number(a.token())
	a.hold(ok)
	return n
}

func (a *arguments) tree() tree { return tree{env: a.number(), slot: a.number()} }

func (a *arguments) name() string {
	t := a.token()
	a.hold(t != "" && len(t) <= maxName && only(t, 'a', 'z'))
	return t
}

// either takes one of two tokens: whether it is the first.
func (a *arguments) either(first, second string) bool {
	t := a.token()
	a.hold(t == first || t == second)
	return t == first
}

func (a *arguments) data() []byte {
	data, ok := data(a.token())
	a.hold(ok)
	return data
}

// bits takes what becomes of so many writes.
func (a *arguments) bits() []bool {
	t := a.token()
	if t == "-" {
		return nil
	}
	a.hold(t != "" && len(t) <= maxBits && only(t, '0', '1'))
	var bits []bool
	for _, r := range t {
		bits = append(bits, r == '1')
	}
	return bits
}

// request takes a system call: its number, up to six numbers, and data, if the line ends with some.
func (a *arguments) request() api.Request {
	r := api.Request{Call: a.number()}
	for i := 0; ; i++ {
		t := a.token()
		if t == "" {
			return r
		}
		if strings.HasPrefix(t, ":") {
			data, ok := data(t)
			a.hold(ok)
			r.Data = data
			return r
		}
		n, ok := number(t)
		a.hold(ok && i < len(r.A))
		if a.wrong {
			return r
		}
		r.A[i] = n
	}
}

// orders takes a run's picks, and behind a "?" its answers.
func (a *arguments) orders() orders {
	var o orders
	for {
		switch t := a.token(); t {
		case "":
			return o
		case "?":
			o.answers = a.words()
			return o
		default:
			p, ok := pick(t)
			a.hold(ok)
			o.picks = append(o.picks, p)
		}
	}
}

// answers takes those that stand behind a "?", if there is one.
func (a *arguments) answers() []uint32 {
	switch a.token() {
	case "":
		return nil
	case "?":
		return a.words()
	}
	a.wrong = true
	return nil
}

// words takes all tokens that are left.
func (a *arguments) words() []uint32 {
	var words []uint32
	for t := a.token(); t != ""; t = a.token() {
		w, ok := word(t)
		a.hold(ok)
		words = append(words, w)
	}
	return words
}

// list takes one token of words, parted by commas, or "-" for none.
func (a *arguments) list() []uint32 {
	t := a.token()
	if t == "-" {
		return nil
	}
	var words []uint32
	for item := range strings.SplitSeq(t, ",") {
		w, ok := word(item)
		a.hold(ok)
		words = append(words, w)
	}
	a.hold(len(words) <= maxAnswers)
	return words
}

// only: whether a text has nothing but letters from one to another.
func only(text string, low, high rune) bool {
	for _, r := range text {
		if r < low || r > high {
			return false
		}
	}
	return true
}

func number(t string) (int, bool) {
	digits, minus := strings.CutPrefix(t, "-")
	if digits == "" || len(digits) > maxDigits || !only(digits, '0', '9') {
		return 0, false
	}
	n := 0
	for _, r := range digits {
		n = 10*n + int(r-'0')
	}
	if minus {
		n = -n
	}
	return n, true
}

func word(t string) (uint32, bool) {
	n, ok := number(t)
	return uint32(n), ok && isWord(n)
}

func isWord(n int) bool { return n >= 0 && n <= api.MaxWord }

func pick(t string) (api.Pick, bool) {
	// Without a ":" there is no count, and nothing is no number.
	place, count, _ := strings.Cut(t, ":")
	k, ok := number(place)
	steps, fits := number(count)
	return api.Pick{K: k, Steps: steps}, ok && fits
}

// data reads bytes as they stand behind a ":", two digits each.
func data(t string) ([]byte, bool) {
	digits, ok := strings.CutPrefix(t, ":")
	if !ok || len(digits)%2 != 0 || len(digits) > maxData {
		return nil, false
	}
	bytes := make([]byte, len(digits)/2)
	for i, r := range digits {
		value := strings.IndexRune(hexDigits, r)
		if value < 0 {
			return nil, false
		}
		bytes[i/2] = bytes[i/2]<<4 | byte(value)
	}
	return bytes, true
}
