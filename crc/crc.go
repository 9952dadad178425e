// Package crc: the sum that guards what lies on the disk: CRC-32, reflected. See DOC.md, chapter 1.
package crc

// polynomial is CRC-32's, its bits turned round because the sum goes lowest bit first.
const polynomial = 0xEDB88320

// sums tells, for each lowest byte of a sum under way, what its eight bits do to the rest, so that a byte is one look-up and not eight steps.
var sums = makeSums()

func makeSums() [256]uint32 {
	var table [256]uint32
	for b := range 256 {
		s := uint32(b)
		for range 8 {
			s = forthBit(s)
		}
		table[b] = s
	}
	return table
}

// forthBit takes a sum under way past one bit 0.
func forthBit(s uint32) uint32 {
	if s&1 == 1 {
		return s>>1 ^ polynomial
	}
	return s >> 1
}

// Sum tells the CRC-32 of data.
func Sum(data []byte) uint32 { return Update(0, data) }

// Update tells the sum of x+data from the sum of x.
func Update(sum uint32, data []byte) uint32 {
	s := ^sum
	for _, b := range data {
		s = s>>8 ^ sums[byte(s)^b]
	}
	return ^s
}
