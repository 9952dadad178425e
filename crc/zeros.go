package crc

import (
	"math/bits"

	"amber/api"
)

// linear is a linear map of 32 bits: what it makes of each bit alone. What it makes of a number is the xor of what it makes of the number's bits.
type linear [32]uint32

// eightTimes gives the map that does bit eight times, so that it goes over a whole zero byte; bit must be linear.
func eightTimes(bit func(uint32) uint32) linear {
	var m linear
	for i := range 32 {
		s := uint32(1) << i
		for range 8 {
			s = bit(s)
		}
		m[i] = s
	}
	return m
}

func (m linear) of(s uint32) uint32 {
	var out uint32
	for i := range 32 {
		if s>>i&1 == 1 {
			out ^= m[i]
		}
	}
	return out
}

// doubled gives the map that does m twice.
func (m linear) doubled() linear {
	var out linear
	for i := range 32 {
		out[i] = m.of(m[i])
	}
	return out
}

// times tells what m, done n times, makes of s. It doubles m for each bit of n, because n may be far too great to count up to.
func (m linear) times(n int, s uint32) uint32 {
	for i := range bits.Len(uint(n)) {
		if n>>i&1 == 1 {
			s = m.of(s)
		}
		m = m.doubled()
	}
	return s
}

// Join tells the sum of x+y from the sum a of x, the sum b of y and y's length n.
func Join(a, b uint32, n int) (uint32, api.Errno) {
	if n < 0 || n > api.MaxJoin {
		return 0, api.ErrArg
	}
	// The turning over of bits falls out of Update(a, z) xor Update(0, z): what is left is what n zero bytes make of a alone.
	return eightTimes(forthBit).times(n, a) ^ b, api.OK
}
