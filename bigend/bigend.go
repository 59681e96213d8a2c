// Package bigend puts numbers without a sign as bytes, the highest byte first, as the sectors of a log and of an image begin.
package bigend

// Append answers b with the lowest size bytes of n behind it, the highest of them first.
func Append(b []byte, n uint64, size int) []byte {
	for i := size - 1; i >= 0; i-- {
		b = append(b, byte(n>>(8*i)))
	}
	return b
}

// Read answers the number whose bytes are b.
func Read(b []byte) uint64 {
	n := uint64(0)
	for _, c := range b {
		n = n<<8 | uint64(c)
	}
	return n
}
