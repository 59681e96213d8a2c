package arith_test

import (
	"math"
	"math/big"
	"math/rand"
	"slices"
	"testing"

	"purser/arith"
)

// edges are the ints at which sums and products become too great, and those around nought.
var edges = []int{
	math.MinInt, math.MinInt + 1, -1<<62 - 1, -1 << 62, -1<<62 + 1, -1 << 53, -1<<32 - 1, -1 << 31, -3, -2, -1,
	0, 1, 2, 3, 10, 1<<31 - 1, 1 << 31, 1 << 32, 3037000499, 3037000500, 1 << 53, 1<<62 - 1, 1 << 62, 1<<62 + 1, math.MaxInt - 1, math.MaxInt,
}

func whole(n int) *big.Int { return big.NewInt(int64(n)) }

// asInt is what a call must answer for a number reckoned without a bound.
func asInt(n *big.Int) (int, bool) {
	if !n.IsInt64() {
		return 0, false
	}
	return int(n.Int64()), true
}

func sumOf(l []int) *big.Int {
	sum := new(big.Int)
	for _, n := range l {
		sum.Add(sum, whole(n))
	}
	return sum
}

// mixed answers the edges and some numbers of all sizes, always the same ones.
func mixed(seed int64, more int) []int {
	r := rand.New(rand.NewSource(seed))
	l := slices.Clone(edges)
	for range more {
		l = append(l, int(r.Uint64())>>r.Intn(64))
	}
	return l
}

func TestP1_1_AddSubMul(t *testing.T) {
	calls := []struct {
		name string
		call func(a, b int) (int, bool)
		want func(z, a, b *big.Int) *big.Int
	}{
		{"Add", arith.Add, (*big.Int).Add},
		{"Sub", arith.Sub, (*big.Int).Sub},
		{"Mul", arith.Mul, (*big.Int).Mul},
	}
	l := mixed(1, 200)
	for _, c := range calls {
		for _, a := range l {
			for _, b := range l {
				want, ok := asInt(c.want(new(big.Int), whole(a), whole(b)))
				if got, is := c.call(a, b); got != want || is != ok {
					t.Fatalf("%s(%d, %d) = %d, %v, not %d, %v", c.name, a, b, got, is, want, ok)
				}
			}
		}
	}
}

func TestP1_1_AddSubMulByHand(t *testing.T) {
	cases := []struct {
		name string
		call func(a, b int) (int, bool)
		a, b int
		want int
		ok   bool
	}{
		{"Add", arith.Add, 1 << 62, 1 << 62, 0, false},
		{"Add", arith.Add, math.MaxInt, 1, 0, false},
		{"Add", arith.Add, math.MaxInt, math.MinInt, -1, true},
		{"Add", arith.Add, math.MinInt, math.MinInt, 0, false},
		{"Add", arith.Add, -1 << 62, -1 << 62, math.MinInt, true},
		{"Sub", arith.Sub, 0, math.MinInt, 0, false},
		{"Sub", arith.Sub, -1, math.MinInt, math.MaxInt, true},
		{"Sub", arith.Sub, math.MinInt, math.MinInt, 0, true},
		{"Sub", arith.Sub, math.MinInt, 1, 0, false},
		{"Mul", arith.Mul, math.MinInt, -1, 0, false},
		{"Mul", arith.Mul, -1, math.MinInt, 0, false},
		{"Mul", arith.Mul, math.MinInt, 1, math.MinInt, true},
		{"Mul", arith.Mul, math.MinInt, 0, 0, true},
		{"Mul", arith.Mul, 0, math.MinInt, 0, true},
		{"Mul", arith.Mul, 1 << 32, -1 << 31, math.MinInt, true},
		{"Mul", arith.Mul, 1 << 32, 1 << 31, 0, false},
		{"Mul", arith.Mul, 1 << 32, 1 << 32, 0, false},
	}
	for _, c := range cases {
		if got, ok := c.call(c.a, c.b); got != c.want || ok != c.ok {
			t.Errorf("%s(%d, %d) = %d, %v, not %d, %v", c.name, c.a, c.b, got, ok, c.want, c.ok)
		}
	}
}

func TestP1_1_Sum(t *testing.T) {
	const most, least = math.MaxInt, math.MinInt
	cases := []struct {
		l    []int
		want int
		ok   bool
	}{
		{nil, 0, true},
		{[]int{}, 0, true},
		{[]int{7}, 7, true},
		{[]int{most}, most, true},
		{[]int{least}, least, true},
		{[]int{most, 1}, 0, false},
		{[]int{least, -1}, 0, false},
		{[]int{most, 1, -1}, most, true},
		{[]int{least, -1, 1}, least, true},
		{[]int{most, most, least, least, 2}, 0, true},
		{[]int{least, least, most, most, 1}, -1, true},
		{[]int{1 << 62, 1 << 62, -1 << 62}, 1 << 62, true},
		// Sums that wrap round to small numbers are too great all the same.
		{[]int{most, most, 2}, 0, false},
		{[]int{least, least}, 0, false},
		{[]int{least, least, 5}, 0, false},
		{[]int{most, most, most, most, 4}, 0, false},
	}
	for _, c := range cases {
		if got, ok := arith.Sum(c.l...); got != c.want || ok != c.ok {
			t.Errorf("Sum(%v) = %d, %v, not %d, %v", c.l, got, ok, c.want, c.ok)
		}
	}
}

func TestP1_1_SumOfMany(t *testing.T) {
	r := rand.New(rand.NewSource(2))
	l := mixed(3, 100)
	for range 20000 {
		few := make([]int, r.Intn(8))
		for i := range few {
			few[i] = l[r.Intn(len(l))]
		}
		want, ok := asInt(sumOf(few))
		if got, is := arith.Sum(few...); got != want || is != ok {
			t.Fatalf("Sum(%v) = %d, %v, not %d, %v", few, got, is, want, ok)
		}
	}
	there := slices.Repeat([]int{math.MaxInt}, 1000)
	back := slices.Repeat([]int{math.MinInt}, 1000)
	if got, ok := arith.Sum(append(there, back...)...); got != -1000 || !ok {
		t.Errorf("there and back: %d, %v", got, ok)
	}
}

func TestP1_1_Blocks(t *testing.T) {
	cases := []struct {
		units, block, want int
		ok                 bool
	}{
		{0, 1, 0, true}, {0, 10, 0, true}, {1, 10, 1, true}, {10, 10, 1, true}, {11, 10, 2, true}, {20, 10, 2, true},
		{math.MaxInt, 1, math.MaxInt, true}, {math.MaxInt, 2, 1 << 62, true}, {math.MaxInt, math.MaxInt, 1, true},
		{math.MaxInt - 1, math.MaxInt, 1, true}, {0, math.MaxInt, 0, true},
		{-1, 1, 0, false}, {math.MinInt, 1, 0, false}, {1, 0, 0, false}, {0, 0, 0, false}, {1, -1, 0, false}, {-1, -1, 0, false}, {5, math.MinInt, 0, false},
	}
	for _, c := range cases {
		if got, ok := arith.Blocks(c.units, c.block); got != c.want || ok != c.ok {
			t.Errorf("Blocks(%d, %d) = %d, %v, not %d, %v", c.units, c.block, got, ok, c.want, c.ok)
		}
	}
	for units := range 200 {
		for block := 1; block < 50; block++ {
			got, ok := arith.Blocks(units, block)
			if !ok || got*block < units || got > 0 && (got-1)*block >= units {
				t.Fatalf("Blocks(%d, %d) = %d, %v", units, block, got, ok)
			}
		}
	}
}

func TestP1_1_Part(t *testing.T) {
	l := mixed(4, 40)
	for _, a := range l {
		for _, b := range l {
			for _, c := range l {
				want, rest, ok := partOf(a, b, c)
				if got, r, is := arith.Part(a, b, c); got != want || r != rest || is != ok {
					t.Fatalf("Part(%d, %d, %d) = %d, %d, %v, not %d, %d, %v", a, b, c, got, r, is, want, rest, ok)
				}
			}
		}
	}
	if n, r, ok := arith.Part(1<<40, 1<<40, 1<<30); n != 1<<50 || r != 0 || !ok {
		t.Error(n, r, ok)
	}
	if n, r, ok := arith.Part(7, 5, 4); n != 8 || r != 3 || !ok {
		t.Error(n, r, ok)
	}
}

// partOf is Part, reckoned without a bound.
func partOf(a, b, c int) (int, int, bool) {
	if a < 0 || b < 0 || c < 1 {
		return 0, 0, false
	}
	rest := new(big.Int)
	n, rest := new(big.Int).QuoRem(new(big.Int).Mul(whole(a), whole(b)), whole(c), rest)
	if !n.IsInt64() {
		return 0, 0, false
	}
	return int(n.Int64()), int(rest.Int64()), true
}

func TestP1_1_Share(t *testing.T) {
	const most = math.MaxInt
	cases := []struct {
		total   int
		weights []int
		want    []int
		ok      bool
	}{
		{10, []int{1, 1, 1}, []int{4, 3, 3}, true},
		{11, []int{1, 1, 1}, []int{4, 4, 3}, true},
		{10, []int{1, 1, 0, 1}, []int{4, 3, 0, 3}, true},
		{10, []int{0, 1, 1, 1}, []int{0, 4, 3, 3}, true},
		{2, []int{0, 1, 0, 1, 1}, []int{0, 1, 0, 1, 0}, true},
		{4, []int{1, 1, 1, 1, 1}, []int{1, 1, 1, 1, 0}, true},
		{0, []int{3, 4}, []int{0, 0}, true},
		{9, []int{5}, []int{9}, true},
		{7, []int{0, 0, 5, 0}, []int{0, 0, 7, 0}, true},
		{100, []int{1, 2, 3}, []int{17, 33, 50}, true},
		{most, []int{most}, []int{most}, true},
		{most, []int{1 << 62, 1<<62 - 1}, []int{1 << 62, 1<<62 - 1}, true},
		{1, []int{1, most - 1}, []int{1, 0}, true},
		{-1, []int{1}, nil, false},
		{math.MinInt, []int{1}, nil, false},
		{10, nil, nil, false},
		{10, []int{}, nil, false},
		{0, nil, nil, false},
		{10, []int{0, 0}, nil, false},
		{10, []int{5, -1}, nil, false},
		{10, []int{-1, 5}, nil, false},
		{10, []int{-1, 1}, nil, false},
		{10, []int{-5}, nil, false},
		{10, []int{most, 1}, nil, false},
		{10, []int{most, most, 2}, nil, false},
		{10, []int{most, most, 5}, nil, false},
		{10, []int{most, 1, -1}, nil, false},
	}
	for _, c := range cases {
		if got, ok := arith.Share(c.total, c.weights); !slices.Equal(got, c.want) || ok != c.ok {
			t.Errorf("Share(%d, %v) = %v, %v, not %v, %v", c.total, c.weights, got, ok, c.want, c.ok)
		}
	}
}

func TestP1_2_SharesHaveTheTotal(t *testing.T) {
	r := rand.New(rand.NewSource(5))
	for range 20000 {
		total := int(r.Uint64()>>1) >> r.Intn(63)
		weights := make([]int, 1+r.Intn(9))
		for i := range weights {
			if r.Intn(3) > 0 {
				weights[i] = int(r.Uint64()>>5) >> r.Intn(59)
			}
		}
		got, ok := arith.Share(total, weights)
		sum, _ := arith.Sum(weights...)
		if ok != (sum > 0) {
			t.Fatalf("Share(%d, %v): %v", total, weights, ok)
		}
		if !ok {
			continue
		}
		if back, is := asInt(sumOf(got)); back != total || !is || len(got) != len(weights) {
			t.Fatalf("Share(%d, %v) = %v: sum %d", total, weights, got, back)
		}
		checkShares(t, total, sum, weights, got)
	}
}

// checkShares: each share is its part, the first ones whose weight isn't 0 have one more, and the others none.
func checkShares(t *testing.T, total, sum int, weights, got []int) {
	t.Helper()
	left := total
	for _, w := range weights {
		n, _, _ := partOf(total, w, sum)
		left -= n
	}
	for i, w := range weights {
		want, _, _ := partOf(total, w, sum)
		if w > 0 && left > 0 {
			want++
			left--
		}
		if got[i] != want {
			t.Fatalf("Share(%d, %v) = %v: at %d not %d", total, weights, got, i, want)
		}
	}
}

func TestP1_3_ArgumentsAndAnswersApart(t *testing.T) {
	room := []int{3, 0, 4, -7, -8, -9, -10, -11, -12}
	before := slices.Clone(room)
	weights := room[:3]
	first, _ := arith.Share(10, weights)
	second, _ := arith.Share(10, weights)
	arith.Sum(weights...)
	if !slices.Equal(room, before) {
		t.Errorf("the weights or the room behind them were changed: %v", room)
	}
	for i := range first {
		first[i] = -1
	}
	_ = append(first, -2, -2, -2)
	if !slices.Equal(room, before) || !slices.Equal(second, []int{5, 0, 5}) {
		t.Errorf("an answer shares memory: %v, %v", room, second)
	}
	weights[0] = 99
	if !slices.Equal(second, []int{5, 0, 5}) {
		t.Errorf("an argument was kept: %v", second)
	}
}
