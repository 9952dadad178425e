package replay

import (
	"amber/api"
	"amber/crc"
	"amber/wire"
)

// eventBytes: of an event in a digest.
const eventBytes = 72

// Digest tells the sum of a trace; what differs between an original and its restored twin (serials) is left out.
func Digest(evs []api.Event) uint32 {
	d := crc.New()
	for _, e := range evs {
		d.Write(asBytes(e))
	}
	return d.Sum()
}

// asBytes takes one event at a time, because a trace may be longer than a writer's bound.
func asBytes(e api.Event) []byte {
	w := wire.NewWriter(eventBytes)
	w.U64(e.Kind)
	w.U64(e.K)
	w.U64(e.Steps)
	w.U64(e.Call)
	for _, a := range e.A {
		w.U32(a)
	}
	w.U64(int(e.Code))
	for _, v := range e.V {
		w.U32(v)
	}
	b, _ := w.Out()
	return b
}
