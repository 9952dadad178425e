package crc

import (
	"math/bits"

	"amber/api"
)

// backBit undoes forthBit: the polynomial's highest bit is 1 and a shift leaves 0 there, so the highest bit tells which way forthBit went.
func backBit(s uint32) uint32 {
	if s>>31 == 1 {
		return (s^polynomial)<<1 | 1
	}
	return s << 1
}

func copyOf(data []byte) []byte {
	out := make([]byte, len(data))
	copy(out, data)
	return out
}

// Forge chooses the four bytes at at so that the sum is want.
func Forge(data []byte, at int, want uint32) ([]byte, api.Errno) {
	if at < 0 || at > len(data)-4 {
		return nil, api.ErrArg
	}
	out := copyOf(data)
	// Turning the bits of a word of four bytes does to the sum what the bytes from there to the end, if they were zero, make of those bits; so the bits to turn are found by taking the wanted change back over as many bytes.
	turn := eightTimes(backBit).times(len(data)-at, Sum(data)^want)
	for i := range 4 {
		out[at+i] ^= byte(turn >> (8 * i))
	}
	return out, api.OK
}

// Burst turns the bits at, at+1 .. that mask names, counted from each byte's lowest bit.
func Burst(data []byte, at int, mask uint32) ([]byte, api.Errno) {
	end := 8 * len(data)
	width := bits.Len32(mask)
	if at < 0 || at > end || width > end-at {
		return nil, api.ErrArg
	}
	out := copyOf(data)
	for i := range width {
		if mask>>i&1 == 1 {
			out[(at+i)/8] ^= 1 << ((at + i) % 8)
		}
	}
	return out, api.OK
}
