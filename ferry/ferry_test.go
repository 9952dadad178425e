package ferry_test

import (
	"bytes"
	"slices"
	"testing"

	"amber/api"
	"amber/ferry"
)

func newSender(t *testing.T, cargo []byte) *ferry.Sender {
	t.Helper()
	s, code := ferry.NewSender(cargo)
	if s == nil || code != api.OK {
		t.Fatalf("P22.1: NewSender(%d bytes) = %v, %d", len(cargo), s, code)
	}
	return s
}

// sends holds all that a sender tells against what it must be.
func sends(t *testing.T, what string, s *ferry.Sender, left int, packets [][]byte) {
	t.Helper()
	got := s.Tick()
	if s.Left() != left || !slices.EqualFunc(got, packets, bytes.Equal) {
		t.Fatalf("%s: Left %d, Tick % .16x, want %d, % .16x", what, s.Left(), got, left, packets)
	}
}

// has holds all that a receiver tells against what it must be; a cargo of nil: none.
func has(t *testing.T, what string, r *ferry.Receiver, n, of int, cargo []byte) {
	t.Helper()
	m, all := r.Have()
	got, whole := r.Cargo()
	if m != n || all != of || whole != (cargo != nil) || !bytes.Equal(got, cargo) || !whole && got != nil {
		t.Fatalf("%s: Have %d, %d, Cargo %d bytes, %v, want %d, %d, %d bytes", what, m, all, len(got), whole, n, of, len(cargo))
	}
}

// answers holds what a receiver answers to a packet against what it must answer.
func answers(t *testing.T, what string, r *ferry.Receiver, packet, want []byte, code api.Errno) {
	t.Helper()
	if got, c := r.Take(packet); c != code || !bytes.Equal(got, want) || c != api.OK && got != nil {
		t.Fatalf("%s: a receiver's Take(% .20x) = % x, %d, want % x, %d", what, packet, got, c, want, code)
	}
}

// takes holds what a sender answers to a packet against what it must answer.
func takes(t *testing.T, what string, s *ferry.Sender, packet []byte, code api.Errno) {
	t.Helper()
	if c := s.Take(packet); c != code {
		t.Fatalf("%s: a sender's Take(% x) = %d, want %d", what, packet, c, code)
	}
}

// rising: n bytes, no two parts alike.
func rising(n int) []byte {
	b := make([]byte, n)
	for i := range b {
		b[i] = byte(i ^ i>>6*37)
	}
	return b
}

// The bytes themselves, so that a fault of the model is not hidden.
func TestAPartAsBytes(t *testing.T) {
	s := newSender(t, []byte("amber"))
	part := []byte{1, 5, 0, 0, 0, 0x82, 0x16, 0xEE, 0x46, 0, 0, 'a', 'm', 'b', 'e', 'r'}
	part = sealed(part)
	sends(t, "P22.1: amber", s, 1, [][]byte{part})
	r := ferry.NewReceiver()
	has(t, "P22.1: not begun", r, 0, 0, nil)
	ack := sealed([]byte{2, 5, 0, 0, 0, 0x82, 0x16, 0xEE, 0x46, 1, 0, 0})
	answers(t, "P22.1: amber", r, part, ack, api.OK)
	has(t, "P22.1: amber", r, 1, 1, []byte("amber"))
	takes(t, "P22.1: amber", s, ack, api.OK)
	sends(t, "P22.1: all acknowledged", s, 0, nil)
	cargo := rising(0x8765)
	last := newSender(t, cargo)
	takes(t, "P22.1: 542 parts", last, ackOf(0x8765, sumOf(cargo), 541, 0), api.OK)
	want := append([]byte{1, 0x65, 0x87, 0, 0}, sealed(cargo)[len(cargo):]...)
	want = sealed(append(append(want, 0x1D, 0x02), cargo[541*64:]...))
	sends(t, "P22.1: the last of 542 parts", last, 1, [][]byte{want})
}

func TestSizes(t *testing.T) {
	for _, n := range []int{0, 40961, 40962, 65536, 1 << 20} {
		if s, code := ferry.NewSender(make([]byte, n)); s != nil || code != api.ErrSize {
			t.Errorf("P22.1: NewSender(%d bytes) = %v, %d, want nil, ErrSize", n, s, code)
		}
	}
	if s, code := ferry.NewSender(nil); s != nil || code != api.ErrSize {
		t.Errorf("P22.1: NewSender(nil) = %v, %d, want nil, ErrSize", s, code)
	}
	parts := map[int]int{1: 1, 2: 1, 63: 1, 64: 1, 65: 2, 127: 2, 128: 2, 129: 3, 512: 8, 513: 9, 641: 11, 40895: 639, 40896: 639, 40897: 640, 40960: 640}
	for n, count := range parts {
		cargo := rising(n)
		s := newSender(t, cargo)
		packets := packetsOf(cargo)
		if len(packets) != count {
			t.Fatalf("the model has %d parts of %d bytes", len(packets), n)
		}
		sends(t, "P22.1: a new sender", s, count, packets[:min(count, 8)])
	}
}

func TestThreeParts(t *testing.T) {
	cargo := rising(130)
	sum := sumOf(cargo)
	s, r := newSender(t, cargo), ferry.NewReceiver()
	p := s.Tick()
	if len(p) != 3 || len(p[0]) != 79 || len(p[1]) != 79 || len(p[2]) != 17 {
		t.Fatalf("P22.1: 130 bytes: Tick % x", p)
	}
	sends(t, "P22.1: Tick changes nothing", s, 3, p)
	answers(t, "P22.1: the third alone", r, p[2], ackOf(130, sum, 0, 2), api.OK)
	has(t, "P22.1: the third alone", r, 1, 3, nil)
	answers(t, "P22.1: then the first", r, p[0], ackOf(130, sum, 1, 1), api.OK)
	answers(t, "P22.1: then the third again", r, p[2], ackOf(130, sum, 1, 1), api.OK)
	has(t, "P22.1: two of three", r, 2, 3, nil)
	takes(t, "P22.1: two of three", s, ackOf(130, sum, 1, 1), api.OK)
	sends(t, "P22.1: two of three", s, 1, p[1:2])
	takes(t, "P22.1: an older one", s, ackOf(130, sum, 0, 2), api.OK)
	sends(t, "P22.1: what was acknowledged stays so", s, 1, p[1:2])
	answers(t, "P22.1: the second", r, p[1], ackOf(130, sum, 3, 0), api.OK)
	has(t, "P22.1: all", r, 3, 3, cargo)
	for _, again := range p {
		answers(t, "P22.1: again, when it is whole", r, again, ackOf(130, sum, 3, 0), api.OK)
	}
	has(t, "P22.1: whole, it stays so", r, 3, 3, cargo)
}

// Whether they were sent or not.
func TestAcknowledgedUnsent(t *testing.T) {
	cargo := rising(40960)
	sum := sumOf(cargo)
	packets := packetsOf(cargo)
	s := newSender(t, cargo)
	takes(t, "P22.1: far ahead", s, ackOf(40960, sum, 600, 0b10100001), api.OK)
	sends(t, "P22.1: far ahead", s, 37, slices.Concat(packets[600:601], packets[602:606], packets[607:608], packets[609:611]))
	takes(t, "P22.1: behind that", s, ackOf(40960, sum, 0, 255), api.OK)
	takes(t, "P22.1: the last flag that may be", s, ackOf(40960, sum, 631, 255), api.OK)
	sends(t, "P22.1: the last flag that may be", s, 1, packets[631:632])
	takes(t, "P22.1: all", s, ackOf(40960, sum, 640, 0), api.OK)
	sends(t, "P22.1: all", s, 0, nil)
}

// A cargo whose sum is not that of its bytes: forgotten with its last part, whichever that is.
func TestAWrongSum(t *testing.T) {
	data := rising(130)
	p := [][]byte{partOf(130, 77, 0, data[:64]), partOf(130, 77, 1, data[64:128]), partOf(130, 77, 2, data[128:])}
	acks := [][2][]byte{
		{ackOf(130, 77, 0, 1), ackOf(130, 77, 0, 3)},
		{ackOf(130, 77, 0, 2), ackOf(130, 77, 1, 1)},
		{ackOf(130, 77, 1, 0), ackOf(130, 77, 2, 0)},
	}
	for last := range 3 {
		r := ferry.NewReceiver()
		answers(t, "P22.1: a wrong sum", r, p[(last+1)%3], acks[last][0], api.OK)
		answers(t, "P22.1: a wrong sum", r, p[(last+2)%3], acks[last][1], api.OK)
		has(t, "P22.1: a wrong sum, two of three", r, 2, 3, nil)
		answers(t, "P22.1: a wrong sum, the last part", r, p[last], nil, api.ErrOther)
		has(t, "P22.1: it forgets all", r, 0, 0, nil)
		amber := packetsOf([]byte("amber"))[0]
		answers(t, "P22.1: it has not begun", r, amber, ackOf(5, 0x46EE1682, 1, 0), api.OK)
		has(t, "P22.1: it has not begun", r, 1, 1, []byte("amber"))
	}
	r := ferry.NewReceiver()
	answers(t, "P22.1: one part alone", r, partOf(5, 0x46EE1683, 0, []byte("amber")), nil, api.ErrOther)
	has(t, "P22.1: one part alone", r, 0, 0, nil)
}

// The first bytes of a part stay; so a wrong part that came first spoils the whole, and all is forgotten.
func TestBytesStay(t *testing.T) {
	cargo := rising(65)
	sum := sumOf(cargo)
	p := packetsOf(cargo)
	r := ferry.NewReceiver()
	answers(t, "P22.1: a wrong part", r, partOf(65, sum, 0, make([]byte, 64)), ackOf(65, sum, 1, 0), api.OK)
	answers(t, "P22.1: the right one", r, p[0], ackOf(65, sum, 1, 0), api.OK)
	has(t, "P22.1: one of two", r, 1, 2, nil)
	answers(t, "P22.1: the last", r, p[1], nil, api.ErrOther)
	has(t, "P22.1: forgotten", r, 0, 0, nil)
	answers(t, "P22.1: anew", r, p[1], ackOf(65, sum, 0, 1), api.OK)
	answers(t, "P22.1: anew", r, p[0], ackOf(65, sum, 2, 0), api.OK)
	answers(t, "P22.1: a wrong part, when it is whole", r, partOf(65, sum, 0, make([]byte, 64)), ackOf(65, sum, 2, 0), api.OK)
	has(t, "P22.1: whole, it stays so", r, 2, 2, cargo)
}

func TestAnotherCargo(t *testing.T) {
	cargo := rising(130)
	sum := sumOf(cargo)
	p := packetsOf(cargo)
	others := [][]byte{partOf(130, sum+1, 1, cargo[64:128]), partOf(129, sum, 1, cargo[64:128]), partOf(40960, sum, 1, cargo[64:128]), packetsOf([]byte("amber"))[0], partOf(130, sum^1<<31, 2, cargo[128:])}
	r := ferry.NewReceiver()
	for i, packet := range [][]byte{p[1], p[0], p[2]} {
		r.Take(packet)
		n, of := r.Have()
		got, _ := r.Cargo()
		if n != i+1 || of != 3 {
			t.Fatalf("P22.1: Have %d, %d", n, of)
		}
		for _, other := range others {
			answers(t, "P22.1: another cargo", r, other, nil, api.ErrOther)
			has(t, "P22.1: refused is unchanged", r, n, of, got)
		}
	}
	has(t, "P22.1: whole", r, 3, 3, cargo)
	s := newSender(t, cargo)
	for _, ack := range [][]byte{ackOf(131, sum, 3, 0), ackOf(129, sum, 3, 0), ackOf(130, sum+1, 3, 0), ackOf(130, sum^1<<31, 0, 3), ackOf(40960, sum, 640, 0), ackOf(5, 0x46EE1682, 1, 0)} {
		takes(t, "P22.1: another cargo", s, ack, api.ErrOther)
		sends(t, "P22.1: refused is unchanged", s, 3, p)
	}
}
