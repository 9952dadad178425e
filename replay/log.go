package replay

import (
	"iter"

	"amber/api"
	"amber/wire"
)

// The parts of a leg: a sealed head, and a sealed run of its picks and answers.
const (
	mark        = 0x4C424D41 // the four first bytes as a word
	headBytes   = 16
	sumBytes    = 4
	pickBytes   = 16
	answerBytes = 4
)

// legBytes: how many bytes a leg has in a log.
func legBytes(leg api.Leg) int {
	return headBytes + sumBytes + pickBytes*len(leg.Picks) + answerBytes*len(leg.Answers) + sumBytes
}

func writeLeg(w *wire.Writer, leg api.Leg) {
	w.Open()
	w.U32(mark)
	w.U32(uint32(len(leg.Picks)))
	w.U32(uint32(len(leg.Answers)))
	w.U32(leg.Sum)
	w.Seal()
	w.Open()
	for _, p := range leg.Picks {
		w.U64(p.K)
		w.U64(p.Steps)
	}
	for _, a := range leg.Answers {
		w.U32(a)
	}
	w.Seal()
}

// legsOf goes through the legs of a log, each with OK; at the first fault it tells ErrLog, and ends.
func legsOf(log []byte) iter.Seq2[api.Leg, api.Errno] {
	return func(yield func(api.Leg, api.Errno) bool) {
		if len(log) > api.MaxLog {
			yield(api.Leg{}, api.ErrLog)
			return
		}
		r := wire.NewReader(log)
		for r.Left() > 0 {
			leg, code := readLeg(r)
			if !yield(leg, code) || code != api.OK {
				return
			}
		}
	}
}

// readLeg makes no list ahead of its bytes: only where they are there, and sealed, is their number to be trusted.
func readLeg(r *wire.Reader) (api.Leg, api.Errno) {
	head := wire.NewReader(r.Sealed(headBytes))
	first := head.U32()
	picks := int(head.U32())
	answers := int(head.U32())
	sum := head.U32()
	body := wire.NewReader(r.Sealed(pickBytes*picks + answerBytes*answers))
	if r.Err() != api.OK || first != mark {
		return api.Leg{}, api.ErrLog
	}
	leg := api.Leg{Picks: make([]api.Pick, picks), Answers: make([]uint32, answers), Sum: sum}
	for i := range leg.Picks {
		leg.Picks[i].K = body.U64()
		leg.Picks[i].Steps = body.U64()
	}
	for i := range leg.Answers {
		leg.Answers[i] = body.U32()
	}
	return leg, api.OK
}
