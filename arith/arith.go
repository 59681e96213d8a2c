// Package arith is layer 1: sums and products that say when they are too great: see shared/doc/01-arith.md.
package arith

import (
	"math"
	"math/bits"
)

// Add answers a + b, if that is an int.
func Add(a, b int) (int, bool) {
	c := a + b
	// Only a sum of two numbers of one sign can be too great: then its sign is another one.
	if (a^c)&(b^c) < 0 {
		return 0, false
	}
	return c, true
}

// Sub answers a - b, if that is an int.
func Sub(a, b int) (int, bool) {
	c := a - b
	// Only a difference of two numbers of unlike signs can be too great: then its sign isn't a's.
	if (a^b)&(a^c) < 0 {
		return 0, false
	}
	return c, true
}

// Mul answers a times b, if that is an int.
func Mul(a, b int) (int, bool) {
	c := a * b
	// The least int divided by -1 wraps round to itself, so the quotient alone would not tell.
	if a == math.MinInt && b == -1 {
		return 0, false
	}
	if b != 0 && c/b != a {
		return 0, false
	}
	return c, true
}

// Sum answers the sum of all, if that is an int.
func Sum(l ...int) (int, bool) {
	// A sum on the way may be no int though the whole one is: so it is kept in 128 bits.
	var high, low uint64
	for _, n := range l {
		var carry uint64
		low, carry = bits.Add64(low, uint64(n), 0)
		high, _ = bits.Add64(high, sign(n), carry)
	}
	sum := int(low)
	if high != sign(sum) {
		return 0, false
	}
	return sum, true
}

// sign answers the upper 64 bits of a number of 128 bits: all ones, if it is below 0, else none.
func sign(n int) uint64 {
	return uint64(n >> 63)
}

// Blocks answers the least number of blocks that hold so many units.
func Blocks(units, block int) (int, bool) {
	if units < 0 || block < 1 {
		return 0, false
	}
	blocks := units / block
	if units%block > 0 {
		blocks++
	}
	return blocks, true
}

// Part answers a times b divided by c, downwards, and the rest.
func Part(a, b, c int) (int, int, bool) {
	if a < 0 || b < 0 || c < 1 {
		return 0, 0, false
	}
	high, low := bits.Mul64(uint64(a), uint64(b))
	// Div64 panics where the quotient has more than 64 bits.
	if high >= uint64(c) {
		return 0, 0, false
	}
	quotient, rest := bits.Div64(high, low, uint64(c))
	if quotient > math.MaxInt {
		return 0, 0, false
	}
	return int(quotient), int(rest), true
}

// Share answers the total in parts, by weights.
func Share(total int, weights []int) ([]int, bool) {
	sum, ok := Sum(weights...)
	if !ok || sum == 0 || total < 0 || anyBelow(weights) {
		return nil, false
	}
	parts := make([]int, len(weights))
	left := total
	for i, weight := range weights {
		parts[i], _, _ = Part(total, weight, sum)
		left -= parts[i]
	}
	// Each weight above 0 leaves less than one over, so what is left is less than their count: one round does.
	for i, weight := range weights {
		if left > 0 && weight > 0 {
			parts[i]++
			left--
		}
	}
	return parts, true
}

// anyBelow says whether one of the numbers is below 0.
func anyBelow(l []int) bool {
	for _, n := range l {
		if n < 0 {
			return true
		}
	}
	return false
}
