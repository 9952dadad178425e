package ferry

import (
	"amber/api"
	"amber/crc"
	"amber/wire"
)

// The kinds of packets, as their first bytes tell them.
const (
	partKind = 1
	ackKind  = 2
)

const (
	headBytes = 11 // the kind, the cargo's length and sum, a number
	sumBytes  = 4
	maxPacket = headBytes + api.PartBytes + sumBytes
	flagBits  = 8
)

// label: by which one cargo is told from another.
type label struct {
	length int
	sum    uint32
}

func labelOf(cargo []byte) label {
	return label{length: len(cargo), sum: crc.Sum(cargo)}
}

// mayBe tells whether a cargo may have this length; its sum may be any.
func (l label) mayBe() bool { return l.length >= 1 && l.length <= api.MaxCargo }

func (l label) parts() int {
	return (l.length + api.PartBytes - 1) / api.PartBytes
}

// bounds tells where in the cargo a part begins and ends.
func (l label) bounds(part int) (begin, end int) {
	begin = part * api.PartBytes
	return begin, min(begin+api.PartBytes, l.length)
}

// content: what a packet says.
type content struct {
	kind   int
	cargo  label
	number int    // a part's own; in an acknowledgement that of the first part that has not come
	data   []byte // a part's bytes
	flags  int    // an acknowledgement's
}

// kind: how what stands behind a packet's first byte is read.
type kind struct {
	first int
	read  func(r *wire.Reader) (content, bool)
}

// read tells what a packet says; false, if it is not well formed.
func read(packet []byte) (content, bool) {
	if len(packet) > maxPacket {
		return content{}, false
	}
	outer := wire.NewReader(packet)
	r := wire.NewReader(outer.Sealed(len(packet) - sumBytes))
	if outer.Err() != api.OK {
		return content{}, false
	}
	kinds := []kind{
		{first: partKind, read: readPart},
		{first: ackKind, read: readAck},
	}
	first := r.U8()
	for _, k := range kinds {
		if k.first == first {
			return k.read(r)
		}
	}
	return content{}, false
}

func readPart(r *wire.Reader) (content, bool) {
	c := readHead(partKind, r)
	c.data = r.Block(r.Left())
	begin, end := c.cargo.bounds(c.number)
	return c, r.End() == api.OK && c.cargo.mayBe() && c.number < c.cargo.parts() && len(c.data) == end-begin
}

func readAck(r *wire.Reader) (content, bool) {
	c := readHead(ackKind, r)
	c.flags = r.U8()
	past := max(c.cargo.parts()-(c.number+1), 0) // the first flag for which there is no part
	return c, r.End() == api.OK && c.cargo.mayBe() && c.number <= c.cargo.parts() && c.flags>>past == 0
}

// readHead reads what all kinds have.
func readHead(first int, r *wire.Reader) content {
	return content{kind: first, cargo: label{length: int(r.U32()), sum: r.U32()}, number: r.U16()}
}

func writePart(cargo label, part int, data []byte) []byte {
	w := writeHead(partKind, cargo, part)
	w.Block(data)
	return sealed(w)
}

func writeAck(cargo label, low, flags int) []byte {
	w := writeHead(ackKind, cargo, low)
	w.U8(flags)
	return sealed(w)
}

func writeHead(first int, cargo label, number int) *wire.Writer {
	w := wire.NewWriter(maxPacket)
	w.Open()
	w.U8(first)
	w.U32(uint32(cargo.length))
	w.U32(cargo.sum)
	w.U16(number)
	return w
}

func sealed(w *wire.Writer) []byte {
	w.Seal()
	packet, _ := w.Out() // no packet passes the bound
	return packet
}
