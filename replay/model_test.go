package replay_test

import (
	"bytes"
	"encoding/binary"
	"hash/crc32"
	"math"
	"slices"

	"amber/api"
)

// The model: a log's bytes and a digest's once more, in the words of the document.

func words(b []byte, v ...uint32) []byte {
	for _, x := range v {
		b = binary.LittleEndian.AppendUint32(b, x)
	}
	return b
}

func longs(b []byte, v ...int) []byte {
	for _, x := range v {
		b = binary.LittleEndian.AppendUint64(b, uint64(x))
	}
	return b
}

// sealed: a body with its sum behind it.
func sealed(body []byte) []byte {
	return words(slices.Clone(body), crc32.ChecksumIEEE(body))
}

// headOf: a leg's sealed first bytes, whatever they say.
func headOf(first string, p, a, sum uint32) []byte {
	return sealed(words([]byte(first), p, a, sum))
}

func bodyOf(l api.Leg) []byte {
	var b []byte
	for _, p := range l.Picks {
		b = longs(b, p.K, p.Steps)
	}
	return words(b, l.Answers...)
}

func legOf(l api.Leg) []byte {
	head := headOf("AMBL", uint32(len(l.Picks)), uint32(len(l.Answers)), l.Sum)
	return append(head, sealed(bodyOf(l))...)
}

func logOf(legs ...api.Leg) []byte {
	var b []byte
	for _, l := range legs {
		b = append(b, legOf(l)...)
	}
	return b
}

// legAt: the first leg of some bytes, and how many it has; 0 if none begins there.
func legAt(b []byte) (api.Leg, int) {
	le := binary.LittleEndian
	if len(b) < 24 || !bytes.Equal(b[:20], sealed(b[:16])) || string(b[:4]) != "AMBL" {
		return api.Leg{}, 0
	}
	p, a := uint64(le.Uint32(b[4:])), uint64(le.Uint32(b[8:]))
	n := 24 + 16*p + 4*a
	if n > uint64(len(b)) || !bytes.Equal(b[20:n], sealed(b[20:n-4])) {
		return api.Leg{}, 0
	}
	l := api.Leg{Sum: le.Uint32(b[12:])}
	for i := range p {
		at := b[20+16*i:]
		l.Picks = append(l.Picks, api.Pick{K: int(le.Uint64(at)), Steps: int(le.Uint64(at[8:]))})
	}
	for i := range a {
		l.Answers = append(l.Answers, le.Uint32(b[20+16*p+4*i:]))
	}
	return l, int(n)
}

func ruleDecode(b []byte) ([]api.Leg, api.Errno) {
	if len(b) > 65536 {
		return nil, api.ErrLog
	}
	var legs []api.Leg
	for len(b) > 0 {
		l, n := legAt(b)
		if n == 0 {
			return nil, api.ErrLog
		}
		legs, b = append(legs, l), b[n:]
	}
	return legs, api.OK
}

func ruleDigest(evs []api.Event) uint32 {
	var b []byte
	for _, e := range evs {
		b = longs(b, e.Kind, e.K, e.Steps, e.Call)
		b = words(b, e.A[:]...)
		b = longs(b, int(e.Code))
		b = words(b, e.V[:]...)
	}
	return crc32.ChecksumIEEE(b)
}

// sameLegs: a nil list and an empty one are the same.
func sameLegs(x, y []api.Leg) bool {
	return slices.EqualFunc(x, y, func(l, m api.Leg) bool {
		return slices.Equal(l.Picks, m.Picks) && slices.Equal(l.Answers, m.Answers) && l.Sum == m.Sum
	})
}

// dice: numbers by a fixed rule, so that each run of the tests is the same.
type dice uint64

func (d *dice) below(n int) int {
	*d = *d*6364136223846793005 + 1442695040888963407
	return int(uint64(*d)>>33) % n
}

func (d *dice) of(l ...int) int { return l[d.below(len(l))] }

// one tells something that happens once in n times.
func (d *dice) one(n int) bool { return d.below(n) == 0 }

func (d *dice) word() uint32 { return uint32(d.below(1<<16))<<16 | uint32(d.below(1<<16)) }

// number: any at all, those at the edges often.
func (d *dice) number() int {
	return d.of(0, 1, -1, 2, 4096, 4097, math.MaxInt, math.MinInt, 1<<32, -1<<32, int(d.word())<<32|int(d.word()))
}

// legs: some, with any numbers in them.
func (d *dice) legs() []api.Leg {
	var l []api.Leg
	for range d.below(6) {
		x := api.Leg{Sum: uint32(d.of(0, 1, 1<<32-1, int(d.word())))}
		for range d.of(0, d.below(4), d.below(20)) {
			x.Picks = append(x.Picks, api.Pick{K: d.number(), Steps: d.number()})
		}
		for range d.of(0, d.below(4), d.below(20)) {
			x.Answers = append(x.Answers, d.word())
		}
		l = append(l, x)
	}
	return l
}

func (d *dice) event() api.Event {
	e := api.Event{Kind: d.of(0, 1, 2, 3, d.number()), K: d.number(), Steps: d.number(), Call: d.number(), Code: api.Errno(d.number()), Serial: d.number()}
	for i := range e.A {
		e.A[i] = d.word()
	}
	for i := range e.V {
		e.V[i] = d.word()
	}
	return e
}

func (d *dice) events(n int) []api.Event {
	var l []api.Event
	for range n {
		l = append(l, d.event())
	}
	return l
}
