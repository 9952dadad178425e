package amber

import (
	"strconv"

	"amber/api"
	"amber/mem"
)

// hexDigits: those of bytes, two each.
const hexDigits = "0123456789abcdef"

// sheet: lines of text in the making.
type sheet struct {
	out []byte
}

func (s *sheet) text() string { return string(s.out) }

// word adds to the line that was begun, or begins one.
func (s *sheet) word(w string) {
	if n := len(s.out); n > 0 && s.out[n-1] != '\n' {
		s.out = append(s.out, ' ')
	}
	s.out = append(s.out, w...)
}

func (s *sheet) numbers(numbers ...int) {
	for _, n := range numbers {
		s.word(strconv.Itoa(n))
	}
}

func (s *sheet) end() { s.out = append(s.out, '\n') }

// line adds a whole one.
func (s *sheet) line(name string, numbers ...int) {
	s.word(name)
	s.numbers(numbers...)
	s.end()
}

// ok adds the first line of a command that was done.
func (s *sheet) ok(numbers ...int) { s.line("ok", numbers...) }

// bytes adds a line of nothing but bytes.
func (s *sheet) bytes(data []byte) {
	s.word(":")
	s.word(hex(data))
	s.end()
}

func (s *sheet) reply(r api.Reply) {
	s.ok(r.V[:]...)
	if len(r.Data) > 0 {
		s.bytes(r.Data)
	}
	for _, row := range r.Rows {
		s.line("=", row[:]...)
	}
}

func (s *sheet) saved(x api.Saved) {
	s.word("ok")
	s.numbers(x.Gen, x.Classes, x.Pages, x.Bytes)
	if x.Full {
		s.word("full")
	} else {
		s.word("next")
	}
	s.end()
}

// rows adds a line of numbers each.
func (s *sheet) rows(rows [][]int) {
	for _, row := range rows {
		s.numbers(row...)
		s.end()
	}
}

func (s *sheet) broken(broken []api.Broken) {
	for _, b := range broken {
		s.line("rule", b.Rule, b.A, b.B)
	}
}

func (s *sheet) meaning(m api.Meaning) {
	s.ok(m.State, m.Code, m.Taken, m.Used, len(m.Outs))
	for _, o := range m.Outs {
		s.line("out", o.Call, int(o.Value))
	}
}

// ran adds what a run tells: how many events, behind these numbers, and the events.
func (s *sheet) ran(numbers []int, events []api.Event) {
	s.word("ok")
	s.numbers(numbers...)
	s.numbers(len(events))
	s.end()
	s.events(events)
}

func (s *sheet) drove(events []api.Event, chosen []int) {
	s.ok(len(events), len(chosen))
	s.events(events)
	if len(chosen) > 0 {
		s.line("chose", chosen...)
	}
}

func (s *sheet) events(events []api.Event) {
	for _, e := range events {
		switch e.Kind {
		case api.EvNone:
			s.line("none", e.K)
		case api.EvSys:
			s.word("sys")
			s.numbers(e.K, e.Steps, e.Call)
			s.numbers(ints(e.A[:])...)
			s.numbers(int(e.Code))
			s.numbers(ints(e.V[:])...)
			s.end()
		case api.EvFault:
			s.line("fault", e.K, e.Steps, int(e.Code))
		case api.EvEnd:
			s.line("end", e.K, e.Steps)
		}
	}
}

func flag(on bool) int {
	if on {
		return 1
	}
	return 0
}

func ints(words []uint32) []int {
	var all []int
	for _, w := range words {
		all = append(all, int(w))
	}
	return all
}

func hex(data []byte) string {
	var digits []byte
	for _, b := range data {
		digits = append(digits, hexDigits[b>>4], hexDigits[b&15])
	}
	return string(digits)
}

func pageHex(p api.Page) string { return hex(mem.Pack(p)) }
