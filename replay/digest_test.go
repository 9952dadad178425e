package replay_test

import (
	"fmt"
	"slices"
	"testing"

	"amber/api"
	"amber/crc"
	"amber/replay"
)

func TestDigestOfNothing(t *testing.T) {
	for _, evs := range [][]api.Event{nil, {}} {
		if d := replay.Digest(evs); d != 0 {
			t.Errorf("P21.1: Digest of no events = %x", d)
		}
	}
}

// The bytes themselves, so that a fault of the model is not hidden.
func TestDigestAsBytes(t *testing.T) {
	e := api.Event{Kind: 1, K: -2, Steps: 258, Call: 14, A: [5]uint32{3, 4, 5, 6, 0x12345678}, Code: 80, V: [3]uint32{7, 8, 0xFEDCBA98}, Serial: 99}
	b := []byte{
		1, 0, 0, 0, 0, 0, 0, 0, 254, 255, 255, 255, 255, 255, 255, 255, 2, 1, 0, 0, 0, 0, 0, 0, 14, 0, 0, 0, 0, 0, 0, 0,
		3, 0, 0, 0, 4, 0, 0, 0, 5, 0, 0, 0, 6, 0, 0, 0, 0x78, 0x56, 0x34, 0x12, 80, 0, 0, 0, 0, 0, 0, 0,
		7, 0, 0, 0, 8, 0, 0, 0, 0x98, 0xBA, 0xDC, 0xFE,
	}
	if got, want := replay.Digest([]api.Event{e}), crc.Sum(b); len(b) != 72 || got != want {
		t.Errorf("P21.1: Digest = %x, want %x", got, want)
	}
	if got, want := replay.Digest([]api.Event{e, {}, e}), crc.Sum(slices.Concat(b, make([]byte, 72), b)); got != want {
		t.Errorf("P21.1: Digest of three events = %x, want %x", got, want)
	}
}

func TestDigestsAgainstTheModel(t *testing.T) {
	for seed := range 300 {
		d := dice(seed)
		evs := d.events(d.below(20))
		given := slices.Clone(evs)
		if got, want := replay.Digest(evs), ruleDigest(evs); got != want {
			t.Fatalf("P21.1: seed %d: Digest = %x, want %x", seed, got, want)
		}
		if !slices.Equal(evs, given) {
			t.Fatalf("P21.1: seed %d: Digest changes what it is given", seed)
		}
	}
}

// A trace of any length: more than a writer of layer 2 takes.
func TestDigestOfALongTrace(t *testing.T) {
	d := dice(4)
	for _, n := range []int{14563, 14564, 40000} {
		evs := d.events(n)
		if got, want := replay.Digest(evs), ruleDigest(evs); got != want {
			t.Errorf("P21.1: Digest of %d events = %x, want %x", n, got, want)
		}
	}
}

func TestSerialIsLeftOut(t *testing.T) {
	for seed := range 100 {
		d := dice(seed)
		evs := d.events(1 + d.below(9))
		was := replay.Digest(evs)
		for i := range evs {
			evs[i].Serial = d.number()
		}
		if replay.Digest(evs) != was {
			t.Fatalf("P21.1: seed %d: the digest hangs on Serial", seed)
		}
	}
	five, nine := []api.Event{{Serial: 5}}, []api.Event{{Serial: 9}}
	if replay.Digest(five) != replay.Digest(nine) {
		t.Errorf("P21.1: the digest hangs on Serial")
	}
}

// Each field counts, and so does the order.
func TestEachFieldCounts(t *testing.T) {
	d := dice(8)
	evs := d.events(3)
	was := replay.Digest(evs)
	for name, change := range map[string]func(e *api.Event){
		"Kind":  func(e *api.Event) { e.Kind++ },
		"K":     func(e *api.Event) { e.K += 1 << 60 },
		"Steps": func(e *api.Event) { e.Steps-- },
		"Call":  func(e *api.Event) { e.Call ^= 1 << 40 },
		"Code":  func(e *api.Event) { e.Code += 1 << 33 },
	} {
		for i := range evs {
			other := slices.Clone(evs)
			change(&other[i])
			if replay.Digest(other) == was {
				t.Errorf("P21.1: the digest does not hang on %s of event %d", name, i)
			}
		}
	}
	slices.Reverse(evs)
	if replay.Digest(evs) == was {
		t.Errorf("P21.1: the digest does not hang on the order")
	}
}

// Traces that differ just in one word of A or V have other digests.
func TestOneWordParts(t *testing.T) {
	for seed := range 40 {
		d := dice(seed)
		evs := d.events(1 + d.below(5))
		was := replay.Digest(evs)
		for i := range evs {
			for at := range 8 {
				for bit := range 34 {
					other := slices.Clone(evs)
					x := d.word() | 1<<(bit%32)
					if bit < 32 {
						x = 1 << bit
					}
					if at < 5 {
						other[i].A[at] ^= x
					} else {
						other[i].V[at-5] ^= x
					}
					if replay.Digest(other) == was {
						t.Fatalf("P21.6: seed %d: %s", seed, fmt.Sprintf("event %d, word %d, turned by %x: the same digest", i, at, x))
					}
				}
			}
		}
	}
}
