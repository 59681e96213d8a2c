package replay

// The lower half of an int has so many bits, and these.
const (
	half    = 32
	lowHalf = 1<<half - 1
)

// sum is a number as its halves, the lower one of which may be any int: what a journal's entries move an account of a kind may
// leave the ints, but its halves' sums can't.
type sum struct {
	high, low int
}

// less answers the sum less an int.
func (s sum) less(n int) sum {
	return s.minus(sum{n >> half, n & lowHalf})
}

// plus answers both sums together.
func (s sum) plus(other sum) sum {
	return sum{s.high + other.high, s.low + other.low}
}

// minus answers a sum less the other one.
func (s sum) minus(other sum) sum {
	return sum{s.high - other.high, s.low - other.low}
}

// number answers the sum as an int; false, if it is none.
func (s sum) number() (int, bool) {
	high := s.high + s.low>>half
	n := high<<half | s.low&lowHalf
	if n>>half != high {
		return 0, false
	}
	return n, true
}
