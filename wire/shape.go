package wire

import "amber/api"

const (
	maxShape = 64
	maxUnits = 256
)

// group stands in the place of a unit's letter.
const group = '('

// unit: a letter or a group of a shape, and how often it stands there.
type unit struct {
	times  int
	letter byte
	within []unit
}

// shapeText: a shape's text and the place that is read next.
type shapeText struct {
	text string
	at   int
}

// readShape gives up with ErrShape where text is no shape.
func readShape(text string) []unit {
	s := &shapeText{text: text}
	if len(text) > maxShape {
		panic(api.ErrShape)
	}
	units := s.units(0)
	if s.at < len(text) || countUnits(units) > maxUnits {
		panic(api.ErrShape)
	}
	return units
}

// units reads up to the end of the text or of the group in which it stands.
func (s *shapeText) units(depth int) []unit {
	var units []unit
	for s.at < len(s.text) && s.text[s.at] != ')' {
		units = append(units, s.unit(depth))
	}
	return units
}

func (s *shapeText) unit(depth int) unit {
	u := unit{times: 1, letter: s.next()}
	if u.letter >= '2' && u.letter <= '9' {
		u.times = int(u.letter - '0')
		u.letter = s.next()
	}
	switch u.letter {
	case 'b', 'h', 'w', 'l':
	case group:
		if depth == api.MaxNest {
			panic(api.ErrShape)
		}
		u.within = s.units(depth + 1)
		if s.next() != ')' {
			panic(api.ErrShape)
		}
	default:
		panic(api.ErrShape)
	}
	return u
}

// next answers 0 behind the end, which has no place in a shape.
func (s *shapeText) next() byte {
	if s.at == len(s.text) {
		return 0
	}
	s.at++
	return s.text[s.at-1]
}

// countUnits multiplies and doesn't write the repeats out: a text that is no shape may ask for millions.
func countUnits(units []unit) int {
	n := 0
	for _, u := range units {
		n += u.times * (1 + countUnits(u.within))
	}
	return n
}

func countLetters(units []unit) int {
	n := 0
	for _, u := range units {
		if u.letter == group {
			n += u.times * countLetters(u.within)
		} else {
			n += u.times
		}
	}
	return n
}
