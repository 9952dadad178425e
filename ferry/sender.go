package ferry

import (
	"bytes"

	"amber/api"
)

// Sender: the side that has the cargo.
type Sender struct {
	cargo []byte
	label label
	acked []bool // a part each
}

// NewSender: nothing is acknowledged.
func NewSender(cargo []byte) (*Sender, api.Errno) {
	if len(cargo) == 0 || len(cargo) > api.MaxCargo {
		return nil, api.ErrSize
	}
	l := labelOf(cargo)
	return &Sender{cargo: bytes.Clone(cargo), label: l, acked: make([]bool, l.parts())}, api.OK
}

// Tick tells the packets that go out now.
func (s *Sender) Tick() [][]byte {
	var packets [][]byte
	for part, acked := range s.acked {
		if len(packets) == api.Window {
			break
		}
		if !acked {
			begin, end := s.label.bounds(part)
			packets = append(packets, writePart(s.label, part, s.cargo[begin:end]))
		}
	}
	return packets
}

// Take takes a packet of the receiver's.
func (s *Sender) Take(packet []byte) api.Errno {
	c, ok := read(packet)
	if !ok || c.kind != ackKind {
		return api.ErrPacket
	}
	if c.cargo != s.label {
		return api.ErrOther
	}
	for part := range c.number {
		s.acked[part] = true
	}
	for i := range flagBits {
		if c.flags>>i&1 == 1 {
			s.acked[c.number+1+i] = true
		}
	}
	return api.OK
}

// Left tells how many parts are not acknowledged.
func (s *Sender) Left() int {
	left := 0
	for _, acked := range s.acked {
		if !acked {
			left++
		}
	}
	return left
}
