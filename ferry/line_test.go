package ferry_test

import (
	"bytes"
	"fmt"
	"slices"
	"testing"

	"amber/api"
	"amber/crc"
	"amber/ferry"
)

func burst(t *testing.T, b []byte, at int, mask uint32) ([]byte, bool) {
	t.Helper()
	spoilt, code := crc.Burst(b, at, mask)
	return spoilt, code == api.OK && mask != 0
}

// Each place of a burst, with many masks, in packets of all kinds.
func TestEveryBurst(t *testing.T) {
	cargo := rising(130)
	sum := sumOf(cargo)
	p := packetsOf(cargo)
	count := 0
	for i, good := range [][]byte{p[0], p[2], ackOf(130, sum, 0, 2), ackOf(130, sum, 3, 0), packetsOf(make([]byte, 64))[0], packetsOf([]byte{0})[0]} {
		d := dice(i)
		fresh, begun, s := ferry.NewReceiver(), ferry.NewReceiver(), newSender(t, cargo)
		begun.Take(p[1])
		for at := range 8 * len(good) {
			for _, mask := range []uint32{1, 3, 1 << 31, 1<<31 | 1, 0xFFFFFFFF, 0xEDB88320, 0x82608EDB, d.mask(), d.mask()} {
				spoilt, ok := burst(t, good, at, mask)
				if !ok {
					continue
				}
				what := fmt.Sprintf("P22.3: packet %d spoilt at bit %d by %x", i, at, mask)
				answers(t, what, fresh, spoilt, nil, api.ErrPacket)
				answers(t, what, begun, spoilt, nil, api.ErrPacket)
				takes(t, what, s, spoilt, api.ErrPacket)
				count++
			}
		}
		has(t, "P22.3: spoilt packets alone", fresh, 0, 0, nil)
		has(t, "P22.3: spoilt packets alone", begun, 1, 3, nil)
		sends(t, "P22.3: spoilt packets alone", s, 3, p)
	}
	if count < 10000 {
		t.Errorf("only %d bursts", count)
	}
}

// bad: a line with what was given to it and is not lost, and which parts have come.
type bad struct {
	pair
	cargo  []byte
	flight [][]byte
	come   map[int]bool
}

func newBad(t *testing.T, cargo []byte) *bad {
	return &bad{pair: newPair(t, cargo), cargo: cargo, come: map[int]bool{}}
}

// arrive gives a packet to the side that it is for (or to the wrong one, which takes none); what that one answers joins the flight.
func (b *bad) arrive(t *testing.T, what string, packet []byte) {
	t.Helper()
	ack, code := b.hands(t, what, packet)
	if packet[0] == 2 {
		if code != api.ErrPacket {
			t.Fatalf("%s: a receiver takes an acknowledgement: %d", what, code)
		}
		return
	}
	if code != api.OK {
		t.Fatalf("%s: a receiver refuses a part that was given: %d", what, code)
	}
	part, _ := rule(1, packet)
	b.come[part.number] = true
	b.names(t, what, ack)
	b.flight = append(b.flight, ack)
}

// names: an acknowledgement names no part that has not come.
func (b *bad) names(t *testing.T, what string, ack []byte) {
	t.Helper()
	x, ok := rule(2, ack)
	if !ok {
		t.Fatalf("%s: the answer % x is not well formed", what, ack)
	}
	for i := range x.number {
		if !b.come[i] {
			t.Fatalf("%s: part %d has not come, low is %d", what, i, x.number)
		}
	}
	for i := range 8 {
		if x.flags&(1<<i) != 0 && !b.come[x.number+1+i] {
			t.Fatalf("%s: part %d has not come, but its flag is set", what, x.number+1+i)
		}
	}
}

// holds what must be at every moment.
func (b *bad) holds(t *testing.T, what string) {
	t.Helper()
	b.agree(t, what)
	got, whole := b.r.Cargo()
	if whole && !bytes.Equal(got, b.cargo) || !whole && got != nil {
		t.Fatalf("%s: Cargo tells another cargo, %v", what, whole)
	}
	n, of := b.r.Have()
	if n != len(b.come) || of != 0 && b.s.Left() < of-n || of == 0 && b.s.Left() != len(packetsOf(b.cargo)) {
		t.Fatalf("%s: %d left, %d of %d have come (%d were handed over)", what, b.s.Left(), n, of, len(b.come))
	}
}

// step: something that such a line does.
func (b *bad) step(t *testing.T, what string, d *dice) {
	t.Helper()
	if len(b.flight) == 0 || d.one(12) {
		b.flight = append(b.flight, b.s.Tick()...)
		return
	}
	at := d.below(len(b.flight))
	packet := b.flight[at]
	switch d.below(6) {
	case 0:
		b.flight = slices.Delete(b.flight, at, at+1)
	case 1:
		if spoilt, ok := burst(t, packet, d.below(8*len(packet)), d.mask()); ok {
			answers(t, what, b.r, spoilt, nil, api.ErrPacket)
			takes(t, what, b.s, spoilt, api.ErrPacket)
		}
	case 2:
		b.arrive(t, what, packet)
	default:
		b.flight = slices.Delete(b.flight, at, at+1)
		b.arrive(t, what, packet)
	}
}

// order: the numbers below n rising, falling, or in any order.
func (d *dice) order(n int) []int {
	l := d.shuffled(n)
	switch d.below(3) {
	case 0:
		slices.Sort(l)
	case 1:
		slices.Sort(l)
		slices.Reverse(l)
	}
	return l
}

// round: a Tick, its packets handed over, each answer handed back, at once or behind all of them.
func (b *bad) round(t *testing.T, what string, d *dice) {
	t.Helper()
	packets := b.s.Tick()
	late := d.one(2)
	var acks [][]byte
	for _, i := range d.order(len(packets)) {
		b.arrive(t, what, packets[i])
		ack := b.flight[len(b.flight)-1]
		if late {
			acks = append(acks, ack)
			continue
		}
		b.hands(t, what, ack)
	}
	for _, i := range d.order(len(acks)) {
		b.hands(t, what, acks[i])
	}
}

// fair: rounds from now on, as many as there are eights left.
func (b *bad) fair(t *testing.T, what string, d *dice) {
	t.Helper()
	for range (b.s.Left() + 7) / 8 {
		b.round(t, what, d)
		b.holds(t, what)
	}
	n := len(packetsOf(b.cargo))
	if b.s.Left() != 0 || len(b.s.Tick()) != 0 {
		t.Fatalf("%s: %d of %d parts are left", what, b.s.Left(), n)
	}
	has(t, what, b.r, n, n, b.cargo)
}

func TestABadLineThenAFairOne(t *testing.T) {
	whole, halfway, begun := 0, 0, 0
	for seed := range 400 {
		d := dice(seed)
		b := newBad(t, d.bytes(d.length()))
		for step := range d.of(d.below(12), d.below(60), d.below(300)) {
			what := fmt.Sprint("P22.3: seed ", seed, ", step ", step)
			b.step(t, what, &d)
			b.holds(t, what)
		}
		n, of := b.r.Have()
		switch {
		case of > 0 && n == of:
			whole++
		case b.s.Left() < len(packetsOf(b.cargo)):
			halfway++
		case n > 0:
			begun++
		}
		b.fair(t, fmt.Sprint("P22.4: seed ", seed), &d)
		for step := range 20 {
			what := fmt.Sprint("P22.3: seed ", seed, ", behind the end, step ", step)
			b.step(t, what, &d)
			b.holds(t, what)
		}
	}
	if whole < 50 || halfway < 50 || begun < 10 {
		t.Errorf("the dice are loaded: %d whole, %d halfway, %d begun", whole, halfway, begun)
	}
}

// All of it, at the edges of what a round carries: a cargo of n parts takes the eights of n.
func TestFairFromTheStart(t *testing.T) {
	for _, n := range []int{1, 64, 65, 448, 449, 512, 513, 576, 577, 1024, 1025, 40960} {
		d := dice(n)
		b := newBad(t, rising(n))
		rounds := (len(packetsOf(b.cargo)) + 7) / 8
		for i := range rounds - 1 {
			b.round(t, "P22.4", &d)
			if want := len(packetsOf(b.cargo)) - 8*(i+1); b.s.Left() != want {
				t.Fatalf("P22.4: %d bytes: behind round %d %d are left, want %d", n, i+1, b.s.Left(), want)
			}
		}
		b.fair(t, fmt.Sprint("P22.4: ", n, " bytes"), &d)
	}
}

// Parts that came and whose acknowledgements were lost, at any places: one round for each eight of those that are left.
func TestFairBehindGaps(t *testing.T) {
	for seed := range 300 {
		d := dice(seed)
		b := newBad(t, d.bytes(64*(1+d.below(40))-d.below(64)))
		packets := packetsOf(b.cargo)
		for i, p := range packets {
			if !d.one(3) {
				continue
			}
			b.arrive(t, "P22.4: ahead of the rounds", p)
			if i%2 == 0 {
				b.hands(t, "P22.4: ahead of the rounds", b.flight[len(b.flight)-1])
			}
		}
		b.holds(t, "P22.4: ahead of the rounds")
		b.fair(t, fmt.Sprint("P22.4: seed ", seed), &d)
	}
}

// tells: what the receiver answers, and what it has, hang on the set of parts alone.
func tells(t *testing.T, what string, r *ferry.Receiver, ack, cargo []byte, come map[int]bool) {
	t.Helper()
	parts := piecesOf(cargo)
	low, flags := 0, byte(0)
	for come[low] {
		low++
	}
	for i := range 8 {
		if come[low+1+i] {
			flags |= 1 << i
		}
	}
	if want := ackOf(uint32(len(cargo)), sumOf(cargo), uint16(low), flags); !bytes.Equal(ack, want) {
		t.Fatalf("%s: % x of the set %v, want % x", what, ack, come, want)
	}
	want := cargo
	if len(come) < len(parts) {
		want = nil
	}
	has(t, what, r, len(come), len(parts), want)
}

// Every order of up to five parts, each then once more.
func TestEveryOrder(t *testing.T) {
	orders := [][]int{{}}
	for n := 1; n <= 5; n++ {
		var longer [][]int
		for _, o := range orders {
			for at := range n {
				longer = append(longer, slices.Insert(slices.Clone(o), at, n-1))
			}
		}
		orders = longer
		cargo := rising(64*n - 10)
		packets := packetsOf(cargo)
		for i, order := range orders {
			r, come := ferry.NewReceiver(), map[int]bool{}
			for step, part := range order {
				what := fmt.Sprint("P22.5: the order ", order)
				come[part] = true
				ack, code := r.Take(packets[part])
				if code != api.OK {
					t.Fatalf("%s: %d", what, code)
				}
				tells(t, what, r, ack, cargo, come)
				again, _ := r.Take(packets[order[(step+i)%(step+1)]])
				tells(t, what+", once more", r, again, cargo, come)
			}
		}
	}
	if len(orders) != 120 {
		t.Errorf("%d orders", len(orders))
	}
}

// Any order of many parts, each as often as one likes, up to the greatest cargo.
func TestAnyOrder(t *testing.T) {
	for seed, n := range []int{20 * 64, 33*64 - 63, 100 * 64, 40960, 40960} {
		d := dice(seed)
		cargo := d.bytes(n)
		packets := packetsOf(cargo)
		r, come := ferry.NewReceiver(), map[int]bool{}
		for _, part := range d.order(len(packets)) {
			for range 1 + d.below(2) {
				come[part] = true
				ack, code := r.Take(packets[part])
				if code != api.OK {
					t.Fatalf("P22.5: %d bytes, part %d: %d", n, part, code)
				}
				tells(t, fmt.Sprint("P22.5: ", n, " bytes"), r, ack, cargo, come)
			}
		}
		has(t, "P22.5: all", r, len(packets), len(packets), cargo)
	}
}
