package isa

import "amber/api"

// mark: the line that a label stands on, and the words that the lines ahead give.
type mark struct {
	line, words int
}

// Assemble turns a program's text into words; the line of the first fault.
func Assemble(text string) ([]uint32, int, api.Errno) {
	if len(text) > api.MaxText {
		return nil, 0, api.ErrSize
	}
	read := readLines(text)
	labels := findLabels(read)
	var words []uint32
	at, code := 0, api.OK
lines:
	for k, l := range read {
		switch code = l.fault(k, len(words), labels); code {
		case api.OK:
			words = l.give(words, labels)
			continue lines
		default:
			words, at = nil, k+1
			break lines
		}
	}
	return words, at, code
}

func readLines(text string) []line {
	var read []line
	for _, piece := range cutAll(text, '\n') {
		read = append(read, readLine(piece))
	}
	return read
}

// findLabels goes through all lines, those of the wrong form too: a label may be named ahead of its line, and counts whatever else stands there. The first line with a label has it.
func findLabels(read []line) map[string]mark {
	labels := map[string]mark{}
	words := 0
	for k, l := range read {
		if _, known := labels[l.label]; l.label != "" && !known {
			labels[l.label] = mark{line: k, words: words}
		}
		words += l.words
	}
	return labels
}

// fault is the first error of line k, with so many words ahead of it.
func (l line) fault(k, ahead int, labels map[string]mark) api.Errno {
	if l.wrong {
		return api.ErrLine
	}
	if l.label != "" && labels[l.label].line != k {
		return api.ErrLabel
	}
	if _, known := labels[l.name]; l.name != "" && !known {
		return api.ErrLabel
	}
	if ahead+l.words > api.MaxCode {
		return api.ErrNoSpace
	}
	return api.OK
}

// give adds the line's words to those of the lines ahead.
func (l line) give(words []uint32, labels map[string]mark) []uint32 {
	w := l.word(len(words), labels)
	for range l.words {
		words = append(words, w)
	}
	return words
}

// word is the line's word at this address.
func (l line) word(at int, labels map[string]mark) uint32 {
	i := l.instr
	if l.name != "" {
		i.Imm = labels[l.name].words
		if isRelative(i.Op) {
			i.Imm -= at + 1
		}
	}
	if i.Op == noOp {
		return uint32(i.Imm)
	}
	// A line without fault is an instruction: its numbers were held against the table, and a label's number is at most api.MaxCode.
	w, _ := Encode(i)
	return w
}

// isRelative tells whether a label in the operation's text is a distance.
func isRelative(op int) bool {
	switch op {
	case opJmp, opJz, opJnz, opCall:
		return true
	}
	return false
}
