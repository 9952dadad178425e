package ferry_test

import (
	"bytes"
	"encoding/binary"
	"hash/crc32"
	"slices"

	"amber/api"
)

// The model: packets, senders and receivers once more, in the words of the document.

func sumOf(b []byte) uint32 { return crc32.ChecksumIEEE(b) }

// sealed: bytes with their sum behind them.
func sealed(b []byte) []byte {
	return binary.LittleEndian.AppendUint32(slices.Clone(b), sumOf(b))
}

func headOf(kind byte, length, sum uint32, number uint16) []byte {
	le := binary.LittleEndian
	return le.AppendUint16(le.AppendUint32(le.AppendUint32([]byte{kind}, length), sum), number)
}

// partOf: a part's packet, whatever it says.
func partOf(length, sum uint32, number uint16, data []byte) []byte {
	return sealed(append(headOf(1, length, sum, number), data...))
}

// ackOf: an acknowledgement, whatever it says.
func ackOf(length, sum uint32, low uint16, flags byte) []byte {
	return sealed(append(headOf(2, length, sum, low), flags))
}

// piecesOf: the bytes of a cargo's parts.
func piecesOf(cargo []byte) [][]byte { return slices.Collect(slices.Chunk(cargo, 64)) }

// packetsOf: the packets of all parts of a cargo.
func packetsOf(cargo []byte) [][]byte {
	var l [][]byte
	for i, piece := range piecesOf(cargo) {
		l = append(l, partOf(uint32(len(cargo)), sumOf(cargo), uint16(i), piece))
	}
	return l
}

// said: what a packet says.
type said struct {
	length, sum uint32
	number      int
	data        []byte
	flags       byte
}

// sizes: of the parts that a length has.
func sizes(length uint32) []int {
	var l []int
	for left := int(length); left > 0; left -= 64 {
		l = append(l, min(left, 64))
	}
	return l
}

// rule tells what a packet of this kind says; false, if it is none or not well formed.
func rule(kind byte, b []byte) (said, bool) {
	if len(b) < 15 || b[0] != kind || !bytes.Equal(b, sealed(b[:len(b)-4])) {
		return said{}, false
	}
	le := binary.LittleEndian
	s := said{length: le.Uint32(b[1:]), sum: le.Uint32(b[5:]), number: int(le.Uint16(b[9:])), data: b[11 : len(b)-4]}
	if s.length < 1 || s.length > 40960 {
		return said{}, false
	}
	parts := sizes(s.length)
	if kind == 1 {
		return s, s.number < len(parts) && len(s.data) == parts[s.number]
	}
	if len(b) != 16 || s.number > len(parts) {
		return said{}, false
	}
	s.flags = b[11]
	for i := range 8 {
		if s.flags&(1<<i) != 0 && s.number+1+i >= len(parts) {
			return said{}, false
		}
	}
	return s, true
}

// ruleSender: a cargo, and the numbers of the parts that are acknowledged.
type ruleSender struct {
	cargo []byte
	acked map[int]bool
}

func newRuleSender(cargo []byte) *ruleSender {
	return &ruleSender{slices.Clone(cargo), map[int]bool{}}
}

func (s *ruleSender) left() int { return len(sizes(uint32(len(s.cargo)))) - len(s.acked) }

func (s *ruleSender) tick() [][]byte {
	var l [][]byte
	for i, p := range packetsOf(s.cargo) {
		if !s.acked[i] && len(l) < 8 {
			l = append(l, p)
		}
	}
	return l
}

func (s *ruleSender) take(b []byte) api.Errno {
	x, ok := rule(2, b)
	if !ok {
		return api.ErrPacket
	}
	if int(x.length) != len(s.cargo) || x.sum != sumOf(s.cargo) {
		return api.ErrOther
	}
	for i := range x.number {
		s.acked[i] = true
	}
	for i := range 8 {
		if x.flags&(1<<i) != 0 {
			s.acked[x.number+1+i] = true
		}
	}
	return api.OK
}

// ruleReceiver: a length and a sum (a length of 0: it has not begun), and the parts that have come, by number.
type ruleReceiver struct {
	length, sum uint32
	parts       map[int][]byte
}

func (r *ruleReceiver) have() (int, int) { return len(r.parts), len(sizes(r.length)) }

func (r *ruleReceiver) joined() []byte {
	var b []byte
	for i := range sizes(r.length) {
		b = append(b, r.parts[i]...)
	}
	return b
}

func (r *ruleReceiver) cargo() ([]byte, bool) {
	if n, of := r.have(); of == 0 || n < of || sumOf(r.joined()) != r.sum {
		return nil, false
	}
	return r.joined(), true
}

func (r *ruleReceiver) take(b []byte) ([]byte, api.Errno) {
	x, ok := rule(1, b)
	if !ok {
		return nil, api.ErrPacket
	}
	if r.length == 0 {
		*r = ruleReceiver{x.length, x.sum, map[int][]byte{}}
	}
	if x.length != r.length || x.sum != r.sum {
		return nil, api.ErrOther
	}
	if r.parts[x.number] == nil {
		r.parts[x.number] = slices.Clone(x.data)
	}
	if n, of := r.have(); n == of && sumOf(r.joined()) != r.sum {
		*r = ruleReceiver{}
		return nil, api.ErrOther
	}
	return r.ack(), api.OK
}

// ack: the acknowledgement of what has come.
func (r *ruleReceiver) ack() []byte {
	low, flags := 0, byte(0)
	for r.parts[low] != nil {
		low++
	}
	for i := range 8 {
		if r.parts[low+1+i] != nil {
			flags |= 1 << i
		}
	}
	return ackOf(r.length, r.sum, uint16(low), flags)
}

// dice: numbers by a fixed rule, so that each run of the tests is the same.
type dice uint64

func (d *dice) below(n int) int {
	*d = *d*6364136223846793005 + 1442695040888963407
	return int(uint64(*d)>>33) % n
}

func (d *dice) of(l ...int) int { return l[d.below(len(l))] }

// one tells something that happens once in n times.
func (d *dice) one(n int) bool { return d.below(n) == 0 }

func (d *dice) word() uint32 { return uint32(d.below(1<<16))<<16 | uint32(d.below(1<<16)) }

func (d *dice) bytes(n int) []byte {
	b := make([]byte, n)
	for i := range b {
		b[i] = byte(d.below(256))
	}
	return b
}

// length: of a cargo, mostly of few parts, those at the edges often.
func (d *dice) length() int {
	return d.of(1, 5, 63, 64, 65, 128, 129, 130, 512, 513, 576, 577, 640, 641, 1+d.below(300), 1+d.below(3000))
}

// mask: of a burst: at least one bit of up to 32.
func (d *dice) mask() uint32 {
	return []uint32{1, 0x80000001, 0xFFFFFFFF, 1 << d.below(32), d.word() | 1, d.word() | 1<<31}[d.below(6)]
}

// shuffled: the numbers below n in any order.
func (d *dice) shuffled(n int) []int {
	l := make([]int, n)
	for i := range l {
		j := d.below(i + 1)
		l[i], l[j] = l[j], i
	}
	return l
}
