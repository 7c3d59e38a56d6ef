// Package crc is layer 1: check sums. See doc/01-crc.md.
package crc

// polynomial is that of CRC-32 with its bits in reverse order, as the register is shifted to the right.
const polynomial = 0xedb88320

// Sum returns the check sum CRC-32 of b.
func Sum(b []byte) uint32 { return Update(0, b) }

// Update returns the sum of two byte strings joined, where sum is that of the first one, and b the second one.
func Update(sum uint32, b []byte) uint32 {
	register := ^sum
	for _, x := range b {
		register = shift(register ^ uint32(x))
	}
	return ^register
}

// shift moves the eight low bits out of the register.
func shift(register uint32) uint32 {
	for range 8 {
		out := register & 1
		register >>= 1
		if out == 1 {
			register ^= polynomial
		}
	}
	return register
}
