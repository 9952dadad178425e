package isa

import "strings"

// cutAt parts a text at the first of these marks, each a single byte.
func cutAt(text, marks string) (ahead, behind string, found bool) {
	for at, c := range text {
		if strings.ContainsRune(marks, c) {
			return text[:at], text[at+1:], true
		}
	}
	return text, "", false
}

// cutAll parts a text at every such mark, a single byte.
func cutAll(text string, mark rune) []string {
	var pieces []string
	from := 0
	for at, c := range text {
		if c == mark {
			pieces = append(pieces, text[from:at])
			from = at + 1
		}
	}
	return append(pieces, text[from:])
}

func isLabel(text string) bool {
	for at, c := range text {
		if !isLetter(c) && (at == 0 || !isDigit(c)) {
			return false
		}
	}
	return text != ""
}

func isLetter(c rune) bool {
	return c >= 'a' && c <= 'z' || c >= 'A' && c <= 'Z' || c == '_'
}

func isDigit(c rune) bool { return c >= '0' && c <= '9' }

// number reads a field that has the form of one.
func number(field string) (int, bool) {
	digits, minus := strings.CutPrefix(field, "-")
	base, most := 10, 10
	if rest, hex := strings.CutPrefix(digits, "0x"); hex {
		digits, base, most = rest, 16, 8
	}
	if digits == "" || len(digits) > most {
		return 0, false
	}
	n := 0
	for _, c := range digits {
		d := digit(c)
		if d >= base {
			return 0, false
		}
		n = n*base + d
	}
	if minus {
		n = -n
	}
	return n, true
}

// digit is what a digit counts; 16, more than any base takes, where c is none.
func digit(c rune) int {
	switch {
	case isDigit(c):
		return int(c - '0')
	case c >= 'a' && c <= 'f':
		return int(c-'a') + 10
	}
	return 16
}
