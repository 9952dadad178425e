package crc_test

import (
	"bytes"
	"math"
	"testing"

	"amber/api"
	"amber/crc"
)

func TestForgeExamples(t *testing.T) {
	cases := []struct {
		data string
		at   int
		want uint32
		out  string
	}{
		{"amber", 1, 0, "\x61\xde\xb4\x6e\x85"},
		{"\x00\x00\x00\x00", 0, 0, "\x9d\x0a\xd9\x6d"},
	}
	for _, c := range cases {
		if got, e := crc.Forge([]byte(c.data), c.at, c.want); string(got) != c.out || e != api.OK {
			t.Errorf("P1.3: Forge(%q, %d, %08X) = % x, %d, want % x", c.data, c.at, c.want, got, e, c.out)
		}
	}
}

func checkForged(t *testing.T, data []byte, at int, want uint32) {
	t.Helper()
	got, e := crc.Forge(data, at, want)
	if e != api.OK || len(got) != len(data) {
		t.Fatalf("P1.3: Forge of %d bytes at %d: %d bytes, %d", len(data), at, len(got), e)
	}
	if s := ruleUpdate(0, got); s != want {
		t.Errorf("P1.3: Forge of %d bytes at %d: the sum is %08X, want %08X", len(data), at, s, want)
	}
	if !bytes.Equal(got[:at], data[:at]) || !bytes.Equal(got[at+4:], data[at+4:]) {
		t.Errorf("P1.3: Forge of %d bytes at %d changes other bytes", len(data), at)
	}
}

func TestForgeEverywhere(t *testing.T) {
	for n := 4; n < 40; n++ {
		data := someBytes(uint32(n), n)
		for at := range n - 3 {
			for _, want := range someSums {
				checkForged(t, data, at, want)
			}
		}
	}
}

func TestForgeOfManyBytes(t *testing.T) {
	data := someBytes(1, 1<<20)
	for _, at := range []int{0, 1, 70001, 1<<20 - 5, 1<<20 - 4} {
		checkForged(t, data, at, 0xABCD1234)
	}
}

// There is just one way: so what has the wanted sum already comes back as it is.
func TestForgeOfItsOwnSum(t *testing.T) {
	data := someBytes(2, 30)
	for at := range len(data) - 3 {
		if got, e := crc.Forge(data, at, crc.Sum(data)); !bytes.Equal(got, data) || e != api.OK {
			t.Errorf("P1.3: Forge at %d of the sum that was: % x, %d", at, got, e)
		}
	}
}

func TestForgeRefuses(t *testing.T) {
	cases := []struct {
		data []byte
		at   int
	}{
		{[]byte("amb"), 0},
		{[]byte("amber"), 2},
		{[]byte("amber"), 5},
		{[]byte("amber"), -1},
		{[]byte("amber"), math.MaxInt},
		{[]byte("amber"), math.MaxInt - 3},
		{[]byte("amber"), math.MinInt},
		{nil, 0},
		{nil, -4},
		{[]byte{}, 0},
		{[]byte("amb"), -1},
	}
	for _, c := range cases {
		if got, e := crc.Forge(c.data, c.at, 5); got != nil || e != api.ErrArg {
			t.Errorf("P1.3: Forge(%q, %d, 5) = % x, %d", c.data, c.at, got, e)
		}
	}
}

// bitOf tells bit k, counted as the document counts.
func bitOf(data []byte, k int) byte { return data[k/8] >> (k % 8) & 1 }

func TestBurstExamples(t *testing.T) {
	cases := []struct {
		data string
		at   int
		mask uint32
		out  string
	}{
		{"am", 7, 3, "\xe1\x6c"},
		{"am", 16, 0, "am"},
		{"am", 15, 1, "\x61\xed"},
		{"am", 0, 0x8000, "\x61\xed"},
		{"", 0, 0, ""},
	}
	for _, c := range cases {
		if got, e := crc.Burst([]byte(c.data), c.at, c.mask); string(got) != c.out || e != api.OK {
			t.Errorf("P1.4: Burst(%q, %d, %X) = % x, %d, want % x", c.data, c.at, c.mask, got, e, c.out)
		}
	}
}

func checkBurst(t *testing.T, data []byte, at int, mask uint32) {
	t.Helper()
	got, e := crc.Burst(data, at, mask)
	if e != api.OK || len(got) != len(data) {
		t.Fatalf("P1.4: Burst of %d bytes, %d, %X: %d bytes, %d", len(data), at, mask, len(got), e)
	}
	for k := range 8 * len(data) {
		turned := k >= at && k < at+32 && mask>>(k-at)&1 == 1
		if (bitOf(got, k) != bitOf(data, k)) != turned {
			t.Fatalf("P1.4: Burst(.., %d, %X): bit %d", at, mask, k)
		}
	}
	if mask != 0 && crc.Sum(got) == crc.Sum(data) {
		t.Fatalf("P1.4: Burst(.., %d, %X) is not told", at, mask)
	}
}

func TestBurstTurnsAndIsTold(t *testing.T) {
	data := someBytes(4, 24)
	masks := []uint32{0, 1, 2, 3, 0x80000000, 0x80000001, 0xEDB88320, 0xDB710641, 0x82608EDB, 0xFFFFFFFF, 0x55555555}
	for i := range 32 {
		masks = append(masks, 1<<i, someSums[i%len(someSums)]*uint32(i+1))
	}
	for at := range 8*len(data) - 31 {
		for _, mask := range masks {
			checkBurst(t, data, at, mask)
		}
	}
}

// A mask may begin so near to the end that only its lowest bits have room.
func TestBurstAtTheEnd(t *testing.T) {
	for n := range 6 {
		data := someBytes(8, n)
		end := 8 * n
		for at := range end + 1 {
			checkBurst(t, data, at, 0)
			for i := range 32 {
				if at+i < end {
					checkBurst(t, data, at, 1<<i)
				} else if got, e := crc.Burst(data, at, 1<<i); got != nil || e != api.ErrArg {
					t.Errorf("P1.4: Burst of %d bytes, %d, bit %d: % x, %d", n, at, i, got, e)
				}
			}
		}
	}
}

func TestBurstRefuses(t *testing.T) {
	cases := []struct {
		data string
		at   int
		mask uint32
	}{
		{"am", 15, 3},
		{"am", 16, 1},
		{"am", 17, 0},
		{"am", -1, 0},
		{"am", -1, 2},
		{"am", -32, 0x80000000},
		{"am", 0, 0x10000},
		{"", 0, 1},
		{"", 1, 0},
		{"am", math.MaxInt, 0},
		{"am", math.MaxInt, 1},
		{"am", math.MaxInt - 31, 0xFFFFFFFF},
		{"am", math.MinInt, 0},
		{"am", math.MinInt, 0xFFFFFFFF},
	}
	for _, c := range cases {
		if got, e := crc.Burst([]byte(c.data), c.at, c.mask); got != nil || e != api.ErrArg {
			t.Errorf("P1.4: Burst(%q, %d, %X) = % x, %d", c.data, c.at, c.mask, got, e)
		}
	}
	if got, e := crc.Burst(nil, 0, 0); len(got) != 0 || e != api.OK {
		t.Errorf("P1.4: Burst(nil, 0, 0) = % x, %d", got, e)
	}
}
