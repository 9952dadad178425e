package amber

import "amber/api"

// told tells what came of a command that was done.
func told(c command) string {
	var s sheet
	switch c := c.(type) {
	case *emptyLine:
	case *callLine:
		s.reply(c.reply)
	case *rawLine:
		s.ok()
		s.bytes(c.data)
	case *diskLine:
		s.ok(append([]int{c.acts, flag(c.down)}, c.pending...)...)
	case *stateLine:
		s.ok(c.state.Serial)
		s.state(c.state)
	case *auditLine:
		s.ok(len(c.broken))
		s.broken(c.broken)
	case *saveLine:
		s.saved(c.saved)
	case *foldLine:
		s.ok(c.folded.Gen)
		s.forest(c.folded.Forest)
	case *treeLine:
		s.ok()
		s.forest(c.forest)
	case *whereLine:
		s.ok(len(c.extents))
		s.rows(c.extents)
	case *meanLine:
		s.meaning(c.meaning)
	case *runLine:
		s.ran(nil, c.events)
	case *recordLine:
		s.ran(nil, c.events)
	case *goLine:
		s.ran(nil, c.events)
	case *replayLine:
		s.ran([]int{c.legs}, c.events)
	case *forthLine:
		s.ran(c.stand, c.events)
	case *driveLine:
		s.drove(c.events, c.chosen)
	default:
		s.ok(numbers(c)...)
	}
	return s.text()
}

// numbers: what is told of a command that tells numbers alone.
func numbers(c command) []int {
	switch c := c.(type) {
	case *progLine:
		return []int{c.words}
	case *speakLine:
		return []int{c.words}
	case *loadLine:
		return c.slots
	case *crashLine:
		return []int{c.kept}
	case *swapLine:
		return []int{c.current}
	case *openLine:
		return []int{c.gen}
	case *wakeLine:
		return []int{c.slot}
	case *sendLine:
		return []int{c.left}
	case *tickLine:
		return []int{c.packets}
	case *passLine:
		return c.told
	case *landLine:
		return []int{c.gen}
	case *backLine:
		return c.stand
	case *findLine:
		return []int{c.found}
	}
	return nil
}

// refusal tells a command that was refused; of some it tells how far they came.
func refusal(c command, code api.Errno) string {
	told := []int{int(code)}
	switch c := c.(type) {
	case *progLine:
		told = append(told, c.line)
	case *speakLine:
		told = append(told, c.line)
	case *meanLine:
		told = append(told, c.line)
	case *replayLine:
		if code == api.ErrDiverge {
			told = append(told, c.legs)
		}
	}
	var s sheet
	s.line("no", told...)
	return s.text()
}
