package replay_test

import (
	"bytes"
	"fmt"
	"math"
	"slices"
	"testing"

	"amber/api"
	"amber/replay"
)

// decodes holds Decode against the legs that it must tell.
func decodes(t *testing.T, what string, log []byte, want []api.Leg) {
	t.Helper()
	if got, code := replay.Decode(log); code != api.OK || !sameLegs(got, want) {
		t.Fatalf("P21.1: %s: Decode(% x ..) = %+v, %d, want %+v", what, first(log), got, code, want)
	}
}

func noLog(t *testing.T, promise, what string, log []byte) {
	t.Helper()
	if got, code := replay.Decode(log); code != api.ErrLog || got != nil {
		t.Fatalf("%s: %s: Decode of %d bytes % x .. = %d legs, %d, want nil, ErrLog", promise, what, len(log), first(log), len(got), code)
	}
}

// first: so much of bytes as a message needs.
func first(b []byte) []byte { return b[:min(len(b), 96)] }

func encodes(t *testing.T, what string, legs []api.Leg, want []byte) {
	t.Helper()
	if got, code := replay.Encode(legs); code != api.OK || !bytes.Equal(got, want) {
		t.Fatalf("P21.1: %s: Encode = %d bytes % x .., %d, want %d bytes % x ..", what, len(got), first(got), code, len(want), first(want))
	}
}

// The bytes themselves, so that a fault of the model is not hidden.
func TestALogAsBytes(t *testing.T) {
	empty := []byte{0x41, 0x4D, 0x42, 0x4C, 0, 0, 0, 0, 0, 0, 0, 0, 0x78, 0x56, 0x34, 0x12}
	empty = append(sealed(empty), 0, 0, 0, 0)
	encodes(t, "a leg of nothing", []api.Leg{{Sum: 0x12345678}}, empty)
	decodes(t, "a leg of nothing", empty, []api.Leg{{Sum: 0x12345678}})
	body := []byte{254, 255, 255, 255, 255, 255, 255, 255, 2, 1, 0, 0, 0, 0, 0, 128, 9, 0, 0, 0, 0xDD, 0xCC, 0xBB, 0xAA}
	leg := append(sealed([]byte{0x41, 0x4D, 0x42, 0x4C, 1, 0, 0, 0, 2, 0, 0, 0, 3, 0, 0, 0}), sealed(body)...)
	legs := []api.Leg{{Picks: []api.Pick{{K: -2, Steps: math.MinInt + 258}}, Answers: []uint32{9, 0xAABBCCDD}, Sum: 3}}
	encodes(t, "a pick and two answers", legs, leg)
	decodes(t, "a pick and two answers", leg, legs)
	encodes(t, "both", append(legs, api.Leg{Sum: 0x12345678}), append(leg, empty...))
}

func TestNoLegs(t *testing.T) {
	for _, log := range [][]byte{nil, {}} {
		decodes(t, "no bytes", log, nil)
	}
	for _, legs := range [][]api.Leg{nil, {}} {
		encodes(t, "no legs", legs, nil)
	}
}

// Back and forth, with any numbers.
func TestBackAndForth(t *testing.T) {
	for seed := range 400 {
		d := dice(seed)
		legs := d.legs()
		log := logOf(legs...)
		what := fmt.Sprint("P21.2: seed ", seed)
		encodes(t, what, legs, log)
		decodes(t, what, log, legs)
		again, code := replay.Decode(log)
		if code != api.OK {
			t.Fatalf("%s: %d", what, code)
		}
		encodes(t, what, again, log)
	}
}

// The greatest log that may be, by picks, answers and legs.
func TestTheBoundOfALog(t *testing.T) {
	list := func(p, a int) api.Leg { return api.Leg{Picks: make([]api.Pick, p), Answers: make([]uint32, a), Sum: 7} }
	cases := []struct {
		what  string
		legs  []api.Leg
		bytes int
	}{
		{"picks", []api.Leg{list(4094, 0)}, 65528},
		{"picks and an answer", []api.Leg{list(4094, 1)}, 65532},
		{"picks and two answers", []api.Leg{list(4094, 2)}, 65536},
		{"picks and three answers", []api.Leg{list(4094, 3)}, 65540},
		{"a pick more", []api.Leg{list(4095, 0)}, 65544},
		{"answers", []api.Leg{list(0, 16378)}, 65536},
		{"an answer more", []api.Leg{list(0, 16379)}, 65540},
		{"legs of nothing", slices.Repeat([]api.Leg{list(0, 0)}, 2730), 65520},
		{"a leg of nothing more", slices.Repeat([]api.Leg{list(0, 0)}, 2731), 65544},
		{"two halves", []api.Leg{list(2046, 2), list(2046, 2)}, 65536},
		{"a leg behind a full log", []api.Leg{list(4094, 2), list(0, 0)}, 65560},
		{"a leg too long ahead of others", []api.Leg{list(4095, 0), list(0, 0)}, 65568},
	}
	for _, c := range cases {
		log := logOf(c.legs...)
		if len(log) != c.bytes {
			t.Fatalf("%s: the model's log has %d bytes, not %d", c.what, len(log), c.bytes)
		}
		if c.bytes <= api.MaxLog {
			encodes(t, c.what, c.legs, log)
			decodes(t, c.what, log, c.legs)
			continue
		}
		if got, code := replay.Encode(c.legs); got != nil || code != api.ErrNoSpace {
			t.Errorf("P21.1: %s: Encode = %d bytes, %d, want nil, ErrNoSpace", c.what, len(got), code)
		}
		noLog(t, "P21.1", c.what+", too long", log)
	}
	for _, n := range []int{65536, 65537, 1 << 20} {
		noLog(t, "P21.1", "zeros", make([]byte, n))
	}
}

// Lists that are handed in again and again make no work for what can't be written.
func TestFarTooMuchToWrite(t *testing.T) {
	long := api.Leg{Picks: make([]api.Pick, 1<<20), Answers: make([]uint32, 1<<20)}
	for _, legs := range [][]api.Leg{slices.Repeat([]api.Leg{long}, 1<<20), make([]api.Leg, 1<<20)} {
		if got, code := replay.Encode(legs); got != nil || code != api.ErrNoSpace {
			t.Errorf("P21.1: Encode of %d legs = %d bytes, %d, want nil, ErrNoSpace", len(legs), len(got), code)
		}
	}
}

// sample: a log with legs of all forms.
func sample() []byte {
	return logOf(
		api.Leg{Picks: []api.Pick{{K: 0, Steps: 2}}, Sum: 0x11223344},
		api.Leg{},
		api.Leg{Picks: []api.Pick{{K: 0, Steps: 5}, {K: -1, Steps: 3}}, Answers: []uint32{9}, Sum: 5},
		api.Leg{Answers: []uint32{1, 1 << 31}},
	)
}

func TestWhatIsNoLog(t *testing.T) {
	pick := longs(nil, 0, 2)
	whole := logOf(api.Leg{Picks: []api.Pick{{K: 0, Steps: 2}}, Sum: 6})
	join := func(parts ...[]byte) []byte { return slices.Concat(parts...) }
	cases := []struct {
		what string
		log  []byte
	}{
		{"other first bytes, sealed", join(headOf("AMBM", 1, 0, 6), sealed(pick))},
		{"first bytes turned round, sealed", join(headOf("LBMA", 1, 0, 6), sealed(pick))},
		{"first bytes of small letters, sealed", join(headOf("ambl", 1, 0, 6), sealed(pick))},
		{"those, and nothing behind them", join(headOf("AMBM", 0, 0, 6), words(nil, 0))},
		{"a pick too few", join(headOf("AMBL", 2, 0, 6), sealed(pick))},
		{"a pick too many", join(headOf("AMBL", 0, 0, 6), sealed(pick))},
		{"an answer too few", join(headOf("AMBL", 1, 1, 6), sealed(pick))},
		{"a head alone", headOf("AMBL", 0, 0, 6)},
		{"a head alone, of one pick", headOf("AMBL", 1, 0, 6)},
		{"no sum behind no picks", join(headOf("AMBL", 0, 0, 6), words(nil, 1))},
		{"half a sum behind no picks", join(headOf("AMBL", 0, 0, 6), []byte{0, 0})},
		{"the body's sum taken with the head", join(headOf("AMBL", 1, 0, 6), pick, sealed(join(headOf("AMBL", 1, 0, 6), pick))[36:])},
		{"sums with the highest byte first", join(whole[:16], []byte{whole[19], whole[18], whole[17], whole[16]}, whole[20:])},
		{"all the picks that a word can tell", join(headOf("AMBL", 1<<32-1, 0, 6), sealed(pick))},
		{"all the answers that a word can tell", join(headOf("AMBL", 0, 1<<32-1, 6), sealed(pick))},
		{"all of both", join(headOf("AMBL", 1<<32-1, 1<<32-1, 6), sealed(pick))},
		{"so many picks that a word would tell none", join(headOf("AMBL", 1<<28, 0, 6), words(nil, 0))},
		{"so many picks that a word would tell one", join(headOf("AMBL", 1<<28+1, 0, 6), sealed(pick))},
		{"so many answers that a word would tell none", join(headOf("AMBL", 0, 1<<30, 6), words(nil, 0))},
		{"picks and answers that a word would tell as one", join(headOf("AMBL", 1<<28, 4, 6), sealed(pick))},
		{"a picks' number below 0, made up for by answers", join(headOf("AMBL", 1<<32-1, 8, 6), sealed(pick))},
		{"a byte behind it", join(whole, []byte{0})},
		{"a byte ahead of it", join([]byte{0}, whole)},
		{"a byte between two", join(whole, []byte{0}, whole)},
		{"zeros behind it", join(whole, make([]byte, 24))},
		{"half a leg behind it", join(whole, whole[:24])},
		{"a text", []byte("AMBL")},
		{"one byte", []byte{0x41}},
	}
	for _, c := range cases {
		noLog(t, "P21.1", c.what, c.log)
		if _, code := ruleDecode(c.log); code != api.ErrLog {
			t.Errorf("%s: the model takes it", c.what)
		}
	}
	// Four picks would be read as sixteen answers, were the numbers not held apart.
	decodes(t, "one pick", whole, []api.Leg{{Picks: []api.Pick{{K: 0, Steps: 2}}, Sum: 6}})
	decodes(t, "four answers", join(headOf("AMBL", 0, 4, 6), sealed(pick)), []api.Leg{{Answers: []uint32{0, 0, 2, 0}, Sum: 6}})
}

// Cut anywhere, but between two legs, it is none.
func TestCutLogs(t *testing.T) {
	log := sample()
	ends := []int{0, 40, 64, 124, 156}
	if len(log) != ends[len(ends)-1] {
		t.Fatalf("the sample has %d bytes", len(log))
	}
	for n := range len(log) + 1 {
		if at := slices.Index(ends, n); at >= 0 {
			legs, code := replay.Decode(log[:n])
			if code != api.OK || len(legs) != at {
				t.Errorf("P21.1: Decode of %d bytes: %d legs, %d", n, len(legs), code)
			}
			continue
		}
		noLog(t, "P21.1", fmt.Sprint("cut at ", n), log[:n])
		if n > 0 && !slices.Contains(ends, n) {
			noLog(t, "P21.1", fmt.Sprint("from ", n, " on"), log[n:])
		}
	}
}

// turned: the bits of a pattern turned over from a bit on, the lowest bit of a byte first.
func turned(log []byte, from int, pattern uint32) []byte {
	b := slices.Clone(log)
	for i := range 32 {
		if at := from + i; pattern>>i&1 == 1 && at/8 < len(b) {
			b[at/8] ^= 1 << (at % 8)
		}
	}
	return b
}

// Every burst of at most 32 bits, wherever it begins, with patterns of all kinds: it may lie over the border of two sealed runs.
func TestBursts(t *testing.T) {
	log := sample()
	d := dice(1)
	for from := range 8 * len(log) {
		patterns := []uint32{1, 3, 1<<32 - 1, 1<<31 | 1, 0x55555555}
		for range 12 {
			patterns = append(patterns, d.word()|1, d.word()>>d.below(31)|1)
		}
		for width := range 32 {
			patterns = append(patterns, 1|1<<width)
		}
		for _, p := range patterns {
			noLog(t, "P21.2", fmt.Sprintf("the burst %x from bit %d on", p, from), turned(log, from, p))
		}
	}
}

// Whatever lies there is told as the model says, and what is taken is given again byte for byte.
func TestSpoiltLogsAgainstTheModel(t *testing.T) {
	taken, refused := 0, 0
	for seed := range 3000 {
		d := dice(seed)
		log := d.spoilt(logOf(d.legs()...))
		want, wanted := ruleDecode(log)
		got, code := replay.Decode(log)
		if code != wanted || !sameLegs(got, want) || code != api.OK && got != nil {
			t.Fatalf("P21.1: seed %d: Decode(% x ..) = %+v, %d, want %+v, %d", seed, first(log), got, code, want, wanted)
		}
		if code != api.OK {
			refused++
			continue
		}
		taken++
		encodes(t, fmt.Sprint("P21.2: seed ", seed), got, log)
	}
	if taken < 300 || refused < 300 {
		t.Errorf("only %d logs were taken, %d refused", taken, refused)
	}
}

// spoilt: bytes of a log changed, cut, moved or sealed anew, so that some are logs again.
func (d *dice) spoilt(log []byte) []byte {
	if len(log) == 0 || d.one(6) {
		return log
	}
	at := d.below(len(log))
	switch d.below(6) {
	case 0:
		log[at] = byte(d.below(256))
	case 1:
		return log[:at]
	case 2:
		return log[at:]
	case 3:
		return slices.Concat(log, log[:at])
	case 4:
		return slices.Concat(log, log)
	case 5:
		// The first leg's head says something else, and is sealed.
		head := slices.Clone(log[:16])
		head[d.below(16)] = byte(d.below(3))
		return slices.Concat(sealed(head), log[20:])
	}
	return log
}

// roomy: the same bytes, with spare room behind them that is full of marks.
func roomy(b []byte) []byte {
	room := append(slices.Clone(b), bytes.Repeat([]byte{0xA5}, 100)...)
	return room[:len(b)]
}

// kept tells whether bytes, made by roomy, and the room behind them are what they were.
func kept(b, was []byte) bool {
	room := b[:len(was)+100]
	return bytes.Equal(room[:len(was)], was) && bytes.Equal(room[len(was):], bytes.Repeat([]byte{0xA5}, 100))
}

// over writes over a list and the spare room behind it.
func over[T any](l []T, v T) {
	l = l[:cap(l)]
	for i := range l {
		l[i] = v
	}
}

func TestNothingIsSharedByDecode(t *testing.T) {
	want, _ := ruleDecode(sample())
	given := roomy(sample())
	legs, _ := replay.Decode(given)
	other, _ := replay.Decode(given)
	if !kept(given, sample()) {
		t.Errorf("P21.1: Decode changes what it is given")
	}
	for i := range legs {
		over(legs[i].Picks, api.Pick{K: 77, Steps: 77})
		over(legs[i].Answers, 77)
		for j := range legs {
			if j > i && !sameLegs(legs[j:j+1], want[j:j+1]) {
				t.Errorf("P21.1: the legs %d and %d of one answer share memory", i, j)
			}
		}
	}
	over(given, 0)
	if !sameLegs(other, want) {
		t.Errorf("P21.1: Decode keeps what it is given, or answers share memory: %+v", other)
	}
}

func TestNothingIsSharedByEncode(t *testing.T) {
	legs, _ := ruleDecode(sample())
	log, _ := replay.Encode(legs)
	other, _ := replay.Encode(legs)
	over(log, 0x5A)
	for i := range legs {
		over(legs[i].Picks, api.Pick{K: 77, Steps: 77})
	}
	if !bytes.Equal(other, sample()) {
		t.Errorf("P21.1: Encode keeps what it is given, or answers share memory")
	}
	legs, _ = ruleDecode(sample())
	replay.Encode(legs)
	if want, _ := ruleDecode(sample()); !sameLegs(legs, want) {
		t.Errorf("P21.1: Encode changes what it is given")
	}
}
