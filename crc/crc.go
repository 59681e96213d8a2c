// Package crc is layer 2: sums of 32 bits: see shared/doc/02-crc.md.
package crc

// turned is the polynomial of IEEE 802.3, its lowest bit first, as the sum takes bits.
const turned = 0xEDB88320

// Sum answers the sum of the parts, one behind the other.
func Sum(parts ...[]byte) uint32 {
	// The sum of no bytes is 0: all ones, turned.
	sum := uint32(0)
	for _, part := range parts {
		sum = More(sum, part)
	}
	return sum
}

// More answers the sum of the bytes whose sum is sum, with b behind them.
func More(sum uint32, b []byte) uint32 {
	// The last turn of the bits is undone, so that the sum goes on where it stood.
	n := ^sum
	for _, c := range b {
		n = step(n ^ uint32(c))
	}
	return ^n
}

// step moves the number eight bits to the right.
func step(n uint32) uint32 {
	for range 8 {
		out := n & 1
		n >>= 1
		if out == 1 {
			n ^= turned
		}
	}
	return n
}
