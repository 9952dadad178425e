package ferry

import (
	"bytes"

	"amber/api"
	"amber/crc"
)

// Receiver: the side that wants it. It has begun where its label has a length.
type Receiver struct {
	label label
	cargo []byte // the bytes of the parts that have come, where they belong
	come  []bool // a part each
	have  int    // how many have come
}

// NewReceiver: nothing has come.
func NewReceiver() *Receiver { return &Receiver{} }

// Take takes a packet of the sender's and tells the packet that answers it.
func (r *Receiver) Take(packet []byte) ([]byte, api.Errno) {
	c, ok := read(packet)
	if !ok || c.kind != partKind {
		return nil, api.ErrPacket
	}
	if !r.begun() {
		r.begin(c.cargo)
	}
	if c.cargo != r.label {
		return nil, api.ErrOther
	}
	if !r.come[c.number] && !r.lay(c) {
		*r = Receiver{}
		return nil, api.ErrOther
	}
	return r.acknowledge(), api.OK
}

func (r *Receiver) begun() bool { return r.label.length > 0 }

func (r *Receiver) begin(cargo label) {
	*r = Receiver{label: cargo, cargo: make([]byte, cargo.length), come: make([]bool, cargo.parts())}
}

// lay takes in a part that has not come; false, if it is the last one and the parts together are not the cargo.
func (r *Receiver) lay(c content) bool {
	begin, _ := r.label.bounds(c.number)
	copy(r.cargo[begin:], c.data)
	r.come[c.number] = true
	r.have++
	return !r.all() || crc.Sum(r.cargo) == r.label.sum
}

// all: where they are all there, they have the cargo's sum, or else Take has forgotten them.
func (r *Receiver) all() bool { return r.begun() && r.have == len(r.come) }

// acknowledge tells what has come, as far as one packet can.
func (r *Receiver) acknowledge() []byte {
	low := 0
	for low < len(r.come) && r.come[low] {
		low++
	}
	flags := 0
	for i := range flagBits {
		if part := low + 1 + i; part < len(r.come) && r.come[part] {
			flags |= 1 << i
		}
	}
	return writeAck(r.label, low, flags)
}

// Have tells how many parts have come, and of how many.
func (r *Receiver) Have() (int, int) { return r.have, len(r.come) }

// Cargo tells the cargo, if all of it has come.
func (r *Receiver) Cargo() ([]byte, bool) {
	if !r.all() {
		return nil, false
	}
	return bytes.Clone(r.cargo), true
}
