package tongue

import (
	"strings"

	"amber/api"
)

const maxName = 16

// What a token is.
const (
	noToken = iota
	endToken
	wordToken
	numberToken
	nameToken
	signToken
)

// token: text is empty where there is none, so that it is no word and no sign.
type token struct {
	kind  int
	text  string
	value uint32 // a number's
	line  int
}

// languageWords are no names.
var languageWords = [...]string{"var", "if", "else", "while", "emit", "stop", "yield", "break", "continue", "ask"}

// shortSigns: those of one byte. Those of two are operators, all of them.
const shortSigns = "|^&<>+-*/%!~=;()[]{}"

// cut parts a source into its tokens. The last one is the source's end, or the first place where no token is: nothing behind that place counts.
func cut(source string) []token {
	var tokens []token
	line, past := 1, 0
places:
	for at, c := range source {
		switch {
		case c == '\n':
			line++
			continue places
		case at < past, c == ' ', c == '\t':
			continue places
		}
		text := source[at:]
		if strings.HasPrefix(text, "//") {
			past = at + lineLength(text)
			continue places
		}
		t := firstToken(text)
		t.line = line
		tokens = append(tokens, t)
		if t.kind == noToken {
			return tokens
		}
		past = at + len(t.text)
	}
	return append(tokens, token{kind: endToken, line: line})
}

// lineLength is how many bytes a text's first line has.
func lineLength(text string) int {
	if end := strings.IndexByte(text, '\n'); end >= 0 {
		return end
	}
	return len(text)
}

// firstToken is the one with which a text begins.
func firstToken(text string) token {
	if run := firstRun(text); run != "" {
		return runToken(run)
	}
	if len(text) > 1 && levelOf(text[:2]) != noLevel {
		return token{kind: signToken, text: text[:2]}
	}
	if strings.Contains(shortSigns, text[:1]) {
		return token{kind: signToken, text: text[:1]}
	}
	return token{}
}

// firstRun is all that a text has ahead of the first byte that is no letter, no digit and no "_".
func firstRun(text string) string {
	for at, c := range text {
		if !isLetter(c) && !isDigit(c) {
			return text[:at]
		}
	}
	return text
}

func isLetter(c rune) bool {
	return c >= 'a' && c <= 'z' || c >= 'A' && c <= 'Z' || c == '_'
}

func isDigit(c rune) bool { return c >= '0' && c <= '9' }

func isWord(run string) bool {
	for _, w := range languageWords {
		if w == run {
			return true
		}
	}
	return false
}

func runToken(run string) token {
	if isWord(run) {
		return token{kind: wordToken, text: run}
	}
	if n, ok := number(run); ok {
		return token{kind: numberToken, text: run, value: n}
	}
	if len(run) <= maxName && !isDigit(rune(run[0])) {
		return token{kind: nameToken, text: run}
	}
	return token{}
}

// number reads a run that has the form of one.
func number(run string) (uint32, bool) {
	digits, base, most := run, 10, 10
	if rest, hex := strings.CutPrefix(run, "0x"); hex {
		digits, base, most = rest, 16, 8
	}
	if digits == "" || len(digits) > most {
		return 0, false
	}
	n := 0
	for _, c := range digits {
		d := digit(c)
		if d >= base {
			return 0, false
		}
		n = n*base + d
	}
	return uint32(n), n <= api.MaxWord
}

// digit is what a digit counts; 16, more than any base takes, where c is none.
func digit(c rune) int {
	switch {
	case isDigit(c):
		return int(c - '0')
	case c >= 'a' && c <= 'f':
		return int(c-'a') + 10
	}
	return 16
}
