package ferry_test

import (
	"bytes"
	"fmt"
	"slices"
	"testing"

	"amber/api"
	"amber/ferry"
)

// refused: neither a new receiver, nor one that has begun with this cargo, nor its sender takes the packet, and nothing changes.
func refused(t *testing.T, what string, cargo, packet []byte) {
	t.Helper()
	all := packetsOf(cargo)
	fresh, begun, s := ferry.NewReceiver(), ferry.NewReceiver(), newSender(t, cargo)
	begun.Take(all[0])
	n, of := begun.Have()
	got, _ := begun.Cargo()
	answers(t, what, fresh, packet, nil, api.ErrPacket)
	answers(t, what, begun, packet, nil, api.ErrPacket)
	takes(t, what, s, packet, api.ErrPacket)
	has(t, what, fresh, 0, 0, nil)
	has(t, what, begun, n, of, got)
	sends(t, what, s, len(all), all[:min(len(all), 8)])
}

func TestNoPackets(t *testing.T) {
	cargo := rising(130)
	sum := sumOf(cargo)
	whole := packetsOf(cargo)[0]
	for name, p := range map[string][]byte{
		"nil": nil, "no bytes": {}, "a byte": {1}, "zeros": make([]byte, 16), "many zeros": make([]byte, 79), "the sum of nothing": make([]byte, 4),
		"very long": make([]byte, 1<<20), "a sealed nothing": sealed(nil), "a sealed kind": sealed([]byte{1}), "a sealed kind 2": sealed([]byte{2}),
		"a head alone": sealed(headOf(1, 130, sum, 0)), "a head of the other kind": sealed(headOf(2, 130, sum, 0)), "half a head": sealed(headOf(1, 130, sum, 0)[:6]),
		"kind 0": sealed(append([]byte{0}, whole[1:75]...)), "kind 3": sealed(append([]byte{3}, whole[1:75]...)), "kind 255": sealed(append([]byte{255}, whole[1:75]...)),
		"kind 3, as short as an acknowledgement": sealed(append(headOf(3, 130, sum, 0), 0)),
		"part 0 of 63":                           partOf(130, sum, 0, cargo[:63]), "part 0 of 65": partOf(130, sum, 0, cargo[:65]), "part 0 of 2": partOf(130, sum, 0, cargo[:2]),
		"part 2 of 64": partOf(130, sum, 2, cargo[:64]), "part 2 of 1": partOf(130, sum, 2, cargo[:1]), "part 2 of 3": partOf(130, sum, 2, cargo[:3]),
		"part 2 of none": partOf(130, sum, 2, nil), "part 3 of none": partOf(130, sum, 3, nil), "part 3 of 64": partOf(130, sum, 3, cargo[:64]), "part 3 of 2": partOf(130, sum, 3, cargo[:2]),
		"part 65535": partOf(130, sum, 65535, cargo[:64]), "part 2 of a cargo of 128": partOf(128, sum, 2, nil), "no length": partOf(0, 0, 0, nil), "no length, 64 bytes": partOf(0, sum, 0, cargo[:64]),
		"too long": partOf(40961, sum, 0, cargo[:64]), "too long, its last part": partOf(40961, sum, 640, cargo[:1]), "the longest number": partOf(1<<32-1, sum, 0, cargo[:64]),
		"a length whose low half fits": partOf(1<<16|130, sum, 0, cargo[:64]), "a length of the highest bit": partOf(1<<31|130, sum, 0, cargo[:64]),
		"a part with bytes behind it": append(slices.Clone(whole), 0), "a part twice": append(slices.Clone(whole), whole...), "a sealed part": sealed(whole),
		"low 4 of 3": ackOf(130, sum, 4, 0), "low 65535": ackOf(130, sum, 65535, 0), "a flag behind all": ackOf(130, sum, 3, 1), "the highest flag behind all": ackOf(130, sum, 3, 128),
		"a flag of part 3": ackOf(130, sum, 0, 4), "a flag of part 3, low 1": ackOf(130, sum, 1, 2), "a flag of part 3, low 2": ackOf(130, sum, 2, 1), "all flags": ackOf(130, sum, 0, 255), "a flag of part 8": ackOf(130, sum, 0, 128),
		"no length, low 0": ackOf(0, 0, 0, 0), "too long, low 0": ackOf(40961, sum, 0, 0), "too long, low 641": ackOf(40961, sum, 641, 0), "the longest number, low 0": ackOf(1<<32-1, sum, 0, 0),
		"an acknowledgement with bytes behind it": append(ackOf(130, sum, 0, 0), 0), "a sealed acknowledgement": sealed(ackOf(130, sum, 0, 0)),
		"an acknowledgement with two flags": sealed(append(headOf(2, 130, sum, 0), 0, 0)), "an acknowledgement as long as a part": sealed(append(headOf(2, 130, sum, 0), make([]byte, 64)...)),
	} {
		refused(t, "P22.1: "+name, cargo, p)
	}
	// The other side's packets are none of this side's.
	s, r := newSender(t, cargo), ferry.NewReceiver()
	answers(t, "P22.1: an acknowledgement for a receiver", r, ackOf(130, sum, 0, 0), nil, api.ErrPacket)
	takes(t, "P22.1: a part for a sender", s, whole, api.ErrPacket)
	has(t, "P22.1: an acknowledgement for a receiver", r, 0, 0, nil)
}

// The edges of what is well formed, each of them taken.
func TestWellFormed(t *testing.T) {
	for _, n := range []int{1, 63, 64, 65, 512, 40896, 40897, 40960} {
		cargo := rising(n)
		sum, packets := sumOf(cargo), packetsOf(cargo)
		parts := len(packets)
		for part := max(0, parts-3); part < parts; part++ {
			r := ferry.NewReceiver()
			if _, code := r.Take(packets[part]); code != api.OK {
				t.Fatalf("P22.1: part %d of %d bytes: %d", part, n, code)
			}
		}
		for low := max(0, parts-10); low <= parts; low++ {
			flags := 1<<max(0, min(8, parts-low-1)) - 1
			for f := range 256 {
				want := api.OK
				if f&^flags != 0 {
					want = api.ErrPacket
				}
				takes(t, fmt.Sprint("P22.1: low ", low, " of ", parts), newSender(t, cargo), ackOf(uint32(n), sum, uint16(low), byte(f)), want)
			}
		}
	}
}

// Cut anywhere, or with a byte behind it, or with bits turned: no packet.
func TestCutOrSpoilt(t *testing.T) {
	cargo := rising(130)
	sum := sumOf(cargo)
	p := packetsOf(cargo)
	for i, good := range [][]byte{p[0], p[2], ackOf(130, sum, 0, 2), ackOf(130, sum, 3, 0)} {
		for n := range good {
			refused(t, fmt.Sprint("P22.1: packet ", i, " cut to ", n), cargo, good[:n])
		}
		for _, b := range []byte{0, 1, 2, 255} {
			refused(t, "P22.1: a longer packet", cargo, append(slices.Clone(good), b))
		}
		for bit := range 8 * len(good) {
			b := slices.Clone(good)
			b[bit/8] ^= 1 << (bit % 8)
			refused(t, fmt.Sprint("P22.1: packet ", i, " with bit ", bit, " turned"), cargo, b)
		}
	}
}

// pair: a side and its model, which must never part.
type pair struct {
	s  *ferry.Sender
	rs *ruleSender
	r  *ferry.Receiver
	rr *ruleReceiver
}

func newPair(t *testing.T, cargo []byte) pair {
	return pair{newSender(t, cargo), newRuleSender(cargo), ferry.NewReceiver(), &ruleReceiver{}}
}

// hands gives a packet to both sides and both models; the receiver's answer.
func (p pair) hands(t *testing.T, what string, packet []byte) ([]byte, api.Errno) {
	t.Helper()
	ack, code := p.rr.take(packet)
	answers(t, what, p.r, packet, ack, code)
	takes(t, what, p.s, packet, p.rs.take(packet))
	return ack, code
}

// agree holds all that both sides tell against the models.
func (p pair) agree(t *testing.T, what string) {
	t.Helper()
	sends(t, what, p.s, p.rs.left(), p.rs.tick())
	n, of := p.rr.have()
	cargo, _ := p.rr.cargo()
	has(t, what, p.r, n, of, cargo)
}

// Every byte of some packets made any other, with the sum made right: what is well formed still and what isn't.
func TestEveryByteResealed(t *testing.T) {
	cargo := rising(130)
	sum := sumOf(cargo)
	p := packetsOf(cargo)
	taken := 0
	for i, good := range [][]byte{p[0], p[2], ackOf(130, sum, 1, 1), ackOf(130, sum, 3, 0), ackOf(40960, sum, 600, 255), partOf(40960, sum, 639, cargo[:64])} {
		body := good[:len(good)-4]
		for at := range body {
			for v := range 256 {
				b := slices.Clone(body)
				b[at] = byte(v)
				both := newPair(t, cargo)
				if _, code := both.hands(t, fmt.Sprint("P22.1: packet ", i, ", byte ", at, " made ", v), sealed(b)); code == api.OK {
					taken++
				}
				both.agree(t, "P22.1: a byte changed")
			}
		}
	}
	if taken < 10000 {
		t.Errorf("only %d packets were taken", taken)
	}
}

// packet: one that may be anything; mostly of one of these cargos.
func (d *dice) packet(cargos [][]byte) []byte {
	c := cargos[d.below(len(cargos))]
	length, sum, parts := uint32(len(c)), sumOf(c), len(sizes(uint32(len(c))))
	if d.one(12) {
		sum = d.word()
	}
	if d.one(12) {
		length = uint32(d.of(0, 40960, 40961, d.below(1000), int(d.word())))
	}
	number := d.below(parts)
	data := piecesOf(c)[number]
	switch {
	case d.one(12):
		data = d.bytes(len(data))
	case d.one(12):
		data = d.bytes(d.below(70))
	}
	packet := partOf(length, sum, uint16(number), data)
	switch {
	case d.one(3):
		packet = ackOf(length, sum, uint16(d.below(parts+1)), byte(d.below(256)&d.below(256)&d.below(256)))
	case d.one(5):
		packet = ackOf(length, sum, uint16(d.below(parts+2)), 0)
	}
	if d.one(12) {
		at := d.below(len(packet) - 4)
		packet[at] = byte(d.below(256))
		packet = sealed(packet[:len(packet)-4])
	}
	if d.one(20) {
		packet[d.below(len(packet))] ^= 1 << d.below(8)
	}
	return packet
}

// Both sides held against the model, whatever comes.
func TestAnyPackets(t *testing.T) {
	codes, whole, forgotten := map[api.Errno]int{}, 0, 0
	for seed := range 1500 {
		d := dice(seed)
		cargos := [][]byte{d.bytes(d.length()), d.bytes(d.of(1, 60, 70, 150))}
		both := newPair(t, cargos[d.below(2)])
		for step := range 40 {
			before, _ := both.rr.have()
			what := fmt.Sprint("P22.1: seed ", seed, ", step ", step)
			_, code := both.hands(t, what, d.packet(cargos))
			both.agree(t, what)
			codes[code]++
			if after, _ := both.rr.have(); after < before {
				forgotten++
			}
		}
		if _, ok := both.r.Cargo(); ok {
			whole++
		}
	}
	if codes[api.OK] < 5000 || codes[api.ErrPacket] < 5000 || codes[api.ErrOther] < 5000 || whole < 200 || forgotten < 30 {
		t.Errorf("the dice are loaded: %v, %d whole, %d forgotten", codes, whole, forgotten)
	}
}

// Bytes of no form at all.
func TestAnyBytes(t *testing.T) {
	for seed := range 3000 {
		d := dice(seed)
		b := d.bytes(d.of(d.below(20), 16, 20, 79, d.below(100)))
		if len(b) > 0 && d.one(2) {
			b[0] = byte(1 + d.below(2))
		}
		if d.one(2) {
			b = sealed(b)
		}
		both := newPair(t, []byte("amber"))
		both.hands(t, fmt.Sprint("P22.1: seed ", seed), b)
		both.agree(t, "P22.1: any bytes")
	}
}

// roomy: the same bytes, with spare room behind them that is full of marks.
func roomy(b []byte) []byte {
	room := append(slices.Clone(b), bytes.Repeat([]byte{0xA5}, 40)...)
	return room[:len(b)]
}

// kept tells whether bytes, made by roomy, and the room behind them are what they were.
func kept(b, was []byte) bool {
	room := b[:len(was)+40]
	return bytes.Equal(room[:len(was)], was) && bytes.Equal(room[len(was):], bytes.Repeat([]byte{0xA5}, 40))
}

// scribble writes over bytes and the spare room behind them.
func scribble(b []byte) {
	b = b[:cap(b)]
	for i := range b {
		b[i] = 0x5A
	}
}

func TestNothingIsSharedByASender(t *testing.T) {
	cargo := rising(700)
	given := roomy(cargo)
	s := newSender(t, given)
	packets := packetsOf(cargo)
	if !kept(given, cargo) {
		t.Fatal("P22.1: NewSender changes what it is given")
	}
	scribble(given)
	sends(t, "P22.1: a sender has a copy", s, 11, packets[:8])
	for i, p := range s.Tick() {
		scribble(p)
		sends(t, fmt.Sprint("P22.1: packet ", i, " is new memory"), s, 11, packets[:8])
	}
	l := s.Tick()
	for i := range l {
		scribble(l[i])
		for j := i + 1; j < len(l); j++ {
			if !bytes.Equal(l[j], packets[j]) {
				t.Fatalf("P22.1: packets %d and %d share memory", i, j)
			}
		}
	}
	clear(l[:cap(l)])
	sends(t, "P22.1: the list is new memory", s, 11, packets[:8])
	ack := ackOf(700, sumOf(cargo), 2, 1)
	given = roomy(ack)
	takes(t, "P22.1", s, given, api.OK)
	if !kept(given, ack) {
		t.Fatal("P22.1: a sender changes the packet")
	}
	scribble(given)
	sends(t, "P22.1: a sender keeps no packet", s, 8, slices.Concat(packets[2:3], packets[4:]))
}

func TestNothingIsSharedByAReceiver(t *testing.T) {
	cargo := rising(200)
	both := newPair(t, cargo)
	for _, packet := range packetsOf(cargo) {
		given := roomy(packet)
		want, _ := both.rr.take(packet)
		ack, _ := both.r.Take(given)
		if !kept(given, packet) || !bytes.Equal(ack, want) {
			t.Fatalf("P22.1: a receiver changes the packet, or answers % x", ack)
		}
		scribble(ack)
		if !kept(given, packet) {
			t.Fatal("P22.1: the answer shares memory with the packet")
		}
		scribble(given)
		both.agree(t, "P22.1: a receiver keeps no packet")
	}
	got, _ := both.r.Cargo()
	scribble(got)
	has(t, "P22.1: the cargo is new memory", both.r, 4, 4, cargo)
	answers(t, "P22.1: again", both.r, packetsOf(cargo)[3], both.rr.ack(), api.OK)
}

// Each is its own, also where the cargo is the same.
func TestApart(t *testing.T) {
	cargo := rising(200)
	x, y := newPair(t, cargo), newPair(t, cargo)
	for _, packet := range packetsOf(cargo) {
		ack, _ := x.hands(t, "P22.1: one of two", packet)
		x.hands(t, "P22.1: one of two", ack)
		x.agree(t, "P22.1: one of two")
		y.agree(t, "P22.1: the other")
	}
	y.hands(t, "P22.1: the other", packetsOf(cargo)[2])
	y.agree(t, "P22.1: the other")
	x.agree(t, "P22.1: one of two")
}
