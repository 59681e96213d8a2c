package tier_test

import (
	"fmt"
	"math"
	"math/big"
	"math/rand"
	"reflect"
	"slices"
	"testing"

	"purser/api"
	"purser/tier"
)

const (
	maxPosition = 1 << 40
	maxBlocks   = 1 << 30
)

func step(upto, price int) api.Tier { return api.Tier{Upto: upto, Price: price} }

func line(tier, blocks, price int) api.Line {
	return api.Line{Tier: tier, Blocks: blocks, Price: price}
}

func priced(mode int, tiers ...api.Tier) api.Tariff {
	return api.Tariff{Group: 1, Mode: mode, Block: 1, Tiers: tiers}
}

// wrong answers tariffs that are none, each in another way.
func wrong() []api.Tariff {
	group, block, price := priced(1, step(0, 1)), priced(1, step(0, 1)), priced(1, step(0, 1<<20+1))
	group.Group = 9
	block.Block = 0
	return []api.Tariff{
		{}, group, block, price, priced(3, step(0, 1)), priced(1), priced(1, step(5, 1)),
		priced(1, step(0, 1), step(0, 1)), priced(2, step(5, 1), step(5, 1), step(0, 1)), priced(1, make([]api.Tier, 7)...),
	}
}

// lines holds a split to what is wanted.
func lines(t *testing.T, x api.Tariff, position, blocks int, want ...api.Line) {
	t.Helper()
	if l, err := tier.Split(x, position, blocks); err != api.OK || !slices.Equal(l, want) {
		t.Errorf("%+v behind %d, %d blocks: %+v, %d, not %+v", x, position, blocks, l, err, want)
	}
}

// in answers the number of a block's tier, by what lies between the ends of the tiers.
func in(x api.Tariff, block int) int {
	low := 0
	for i, tier := range x.Tiers {
		high := tier.Upto
		if high == 0 {
			high = math.MaxInt
		}
		if low < block && block <= high {
			return i
		}
		low = high
	}
	return -1
}

func TestP10_1_TheTierOfABlock(t *testing.T) {
	x := priced(1, step(1, 9), step(10, 8), step(11, 7), step(maxPosition, 6), step(0, 5))
	for block, want := range map[int]int{
		1: 0, 2: 1, 9: 1, 10: 1, 11: 2, 12: 3, maxPosition - 1: 3, maxPosition: 3, maxPosition + 1: 4, math.MaxInt: 4,
		0: -1, -1: -1, math.MinInt: -1,
	} {
		for _, mode := range []int{1, 2} {
			x.Mode = mode
			if i := tier.Index(x, block); i != want {
				t.Errorf("block %d: %d, not %d", block, i, want)
			}
		}
	}
	only := priced(2, step(0, 3))
	for _, block := range []int{1, 2, math.MaxInt} {
		if i := tier.Index(only, block); i != 0 {
			t.Errorf("block %d: %d", block, i)
		}
	}
	for _, x := range wrong() {
		if i := tier.Index(x, 1); i != -1 {
			t.Errorf("%+v: %d", x, i)
		}
	}
}

func TestP10_1_TheExample(t *testing.T) {
	lines(t, priced(1, step(10, 3), step(0, 2)), 8, 5, line(0, 2, 3), line(1, 3, 2))
	lines(t, priced(2, step(10, 3), step(0, 2)), 8, 5, line(1, 5, 2))
}

func TestP10_1_ASplitThatEndsAtAnUptoAndBehindIt(t *testing.T) {
	up, all := priced(1, step(10, 3), step(20, 4), step(0, 2)), priced(2, step(10, 3), step(20, 4), step(0, 2))
	lines(t, up, 8, 2, line(0, 2, 3))
	lines(t, all, 8, 2, line(0, 2, 3))
	lines(t, up, 8, 3, line(0, 2, 3), line(1, 1, 4))
	lines(t, all, 8, 3, line(1, 3, 4))
	lines(t, up, 8, 12, line(0, 2, 3), line(1, 10, 4))
	lines(t, all, 8, 12, line(1, 12, 4))
	lines(t, up, 8, 13, line(0, 2, 3), line(1, 10, 4), line(2, 1, 2))
	lines(t, all, 8, 13, line(2, 13, 2))
	lines(t, up, 10, 1, line(1, 1, 4))
	lines(t, all, 10, 1, line(1, 1, 4))
	lines(t, up, 9, 1, line(0, 1, 3))
	lines(t, up, 20, 7, line(2, 7, 2))
	lines(t, up, 0, 1, line(0, 1, 3))
	lines(t, up, 0, 10, line(0, 10, 3))
}

func TestP10_1_OfNoBlocksThereAreNoLines(t *testing.T) {
	for _, mode := range []int{1, 2} {
		for _, position := range []int{0, 1, 10, maxPosition} {
			lines(t, priced(mode, step(10, 3), step(0, 2)), position, 0)
		}
	}
}

func TestP10_1_TheGreatestSplit(t *testing.T) {
	tiers := []api.Tier{step(maxPosition-1, 5), step(maxPosition, 1<<20), step(0, 7)}
	up, all := priced(1, tiers...), priced(2, tiers...)
	lines(t, up, maxPosition, maxBlocks, line(2, maxBlocks, 7))
	lines(t, all, maxPosition, maxBlocks, line(2, maxBlocks, 7))
	lines(t, up, maxPosition-2, maxBlocks, line(0, 1, 5), line(1, 1, 1<<20), line(2, maxBlocks-2, 7))
	lines(t, all, maxPosition-2, maxBlocks, line(2, maxBlocks, 7))
	lines(t, up, maxPosition-2, 2, line(0, 1, 5), line(1, 1, 1<<20))
	lines(t, all, maxPosition-2, 2, line(1, 2, 1<<20))
	lines(t, up, 0, maxBlocks, line(0, maxBlocks, 5))
}

func TestP10_1_WhatIsNotSplit(t *testing.T) {
	good := priced(1, step(10, 3), step(0, 2))
	type args struct {
		x                api.Tariff
		position, blocks int
	}
	var all []args
	for _, n := range []int{-1, math.MinInt, maxPosition + 1, math.MaxInt} {
		all = append(all, args{good, n, 0}, args{good, n, 1})
	}
	for _, n := range []int{-1, math.MinInt, maxBlocks + 1, math.MaxInt} {
		all = append(all, args{good, 0, n}, args{good, maxPosition, n}, args{good, -1, n})
	}
	for _, x := range wrong() {
		all = append(all, args{x, 0, 0}, args{x, 0, 1}, args{x, -1, -1})
	}
	for _, a := range all {
		if l, err := tier.Split(a.x, a.position, a.blocks); err != api.ErrArg || l != nil {
			t.Errorf("%+v: %+v, %d", a, l, err)
		}
	}
}

// random answers a tariff with ends of tiers up to most.
func random(r *rand.Rand, mode, most int) api.Tariff {
	x := priced(mode)
	ends := map[int]bool{}
	for range r.Intn(6) {
		ends[1+r.Intn(most)] = true
	}
	for end := range ends {
		x.Tiers = append(x.Tiers, step(end, 0))
	}
	slices.SortFunc(x.Tiers, func(a, b api.Tier) int { return a.Upto - b.Upto })
	x.Tiers = append(x.Tiers, step(0, 0))
	for i := range x.Tiers {
		x.Tiers[i].Price = r.Intn(3) * r.Intn(1<<19)
	}
	return x
}

func TestP10_1_ASplitBlockByBlock(t *testing.T) {
	r := rand.New(rand.NewSource(10))
	for range 3000 {
		mode := 1 + r.Intn(2)
		x, position, blocks := random(r, mode, 30), r.Intn(40), r.Intn(40)
		counts := make([]int, len(x.Tiers))
		for block := position + 1; block <= position+blocks; block++ {
			if mode == 1 {
				counts[in(x, block)]++
			} else {
				counts[in(x, position+blocks)]++
			}
			if i := tier.Index(x, block); i != in(x, block) {
				t.Fatalf("%+v: block %d: %d", x, block, i)
			}
		}
		var want []api.Line
		for i, n := range counts {
			if n > 0 {
				want = append(want, line(i, n, x.Tiers[i].Price))
			}
		}
		lines(t, x, position, blocks, want...)
	}
}

func TestP10_2_TheBlocksOfASplitAreAllBlocks(t *testing.T) {
	r := rand.New(rand.NewSource(102))
	for range 3000 {
		x, position, blocks := random(r, 1+r.Intn(2), maxPosition), r.Intn(maxPosition+1), r.Intn(maxBlocks+1)
		l, err := tier.Split(x, position, blocks)
		if err != api.OK {
			t.Fatal(err)
		}
		if n, ok := tier.Blocks(l); n != blocks || !ok {
			t.Fatalf("%+v: %d, %v, not %d", l, n, ok, blocks)
		}
		for i, a := range l {
			if a.Blocks < 1 || a.Price != x.Tiers[a.Tier].Price || i > 0 && l[i-1].Tier >= a.Tier {
				t.Fatalf("%+v: %+v", x, l)
			}
		}
	}
}

func TestP10_2_WhatIsSplitInTwoIsMergedWhatIsSplitAtOnce(t *testing.T) {
	r := rand.New(rand.NewSource(103))
	for i := range 3000 {
		most, blocks := 40, r.Intn(50)
		if i%2 == 1 {
			most, blocks = maxPosition, r.Intn(maxBlocks+1)
		}
		x, position := random(r, 1, most), r.Intn(most)
		if i%3 == 0 {
			position = max(0, x.Tiers[0].Upto-r.Intn(blocks+1))
		}
		if position+blocks > maxPosition {
			continue
		}
		first := r.Intn(blocks + 1)
		a, _ := tier.Split(x, position, first)
		b, _ := tier.Split(x, position+first, blocks-first)
		all, err := tier.Split(x, position, blocks)
		merged, ok := tier.Merge(a, b)
		if err != api.OK || !ok || !slices.Equal(merged, all) {
			t.Fatalf("%+v behind %d, %d and %d: %+v, not %+v", x, position, first, blocks-first, merged, all)
		}
	}
}

func TestP10_1_WhatLinesCost(t *testing.T) {
	for _, c := range []struct {
		l    []api.Line
		want int
		ok   bool
	}{
		{nil, 0, true},
		{[]api.Line{}, 0, true},
		{[]api.Line{line(0, 2, 3), line(1, 3, 2)}, 12, true},
		{[]api.Line{line(0, 5, 0), line(-7, 0, 5)}, 0, true},
		{[]api.Line{line(0, maxBlocks, 1<<20)}, 1 << 50, true},
		{[]api.Line{line(0, -2, 3), line(0, 2, -4), line(0, -5, -6)}, 16, true},
		{[]api.Line{line(0, 1<<31, 1<<31)}, 1 << 62, true},
		{[]api.Line{line(0, 1<<32, 1<<31)}, 0, false},
		{[]api.Line{line(0, -1<<32, 1<<31)}, math.MinInt, true},
		{[]api.Line{line(0, math.MinInt, -1)}, 0, false},
		{[]api.Line{line(0, -1, math.MinInt)}, 0, false},
		{[]api.Line{line(0, math.MaxInt, 1)}, math.MaxInt, true},
		{[]api.Line{line(0, math.MaxInt, 1), line(0, 1, 1)}, 0, false},
		{[]api.Line{line(0, math.MinInt, 1), line(0, -1, 1)}, 0, false},
		// A product that is no int, though the sum would be one.
		{[]api.Line{line(0, math.MaxInt, 2), line(0, math.MinInt, 2)}, 0, false},
		// A sum on the way that is no int, though the whole one is.
		{[]api.Line{line(0, math.MaxInt, 1), line(0, 1, 1), line(0, 1, -1)}, math.MaxInt, true},
	} {
		if n, ok := tier.Cost(c.l); n != c.want || ok != c.ok {
			t.Errorf("%+v: %d, %v", c.l, n, ok)
		}
	}
}

func TestP10_1_HowManyBlocksLinesHave(t *testing.T) {
	for _, c := range []struct {
		counts []int
		want   int
		ok     bool
	}{
		{nil, 0, true},
		{[]int{2, 3}, 5, true},
		{[]int{0, -4}, -4, true},
		{[]int{math.MaxInt}, math.MaxInt, true},
		{[]int{math.MinInt}, math.MinInt, true},
		{[]int{math.MaxInt, 1}, 0, false},
		{[]int{math.MinInt, -1}, 0, false},
		{[]int{math.MaxInt, 1, -1}, math.MaxInt, true},
		{[]int{math.MaxInt, math.MaxInt, math.MinInt, math.MinInt, 2}, 0, true},
	} {
		var l []api.Line
		for i, n := range c.counts {
			l = append(l, line(i, n, math.MaxInt))
		}
		if n, ok := tier.Blocks(l); n != c.want || ok != c.ok {
			t.Errorf("%v: %d, %v", c.counts, n, ok)
		}
	}
}

func TestP10_1_MergedLines(t *testing.T) {
	for _, c := range []struct {
		a, b, want []api.Line
		ok         bool
	}{
		{nil, []api.Line{}, nil, true},
		{[]api.Line{line(0, 2, 3)}, nil, []api.Line{line(0, 2, 3)}, true},
		{nil, []api.Line{line(0, 0, 3)}, []api.Line{line(0, 0, 3)}, true},
		{[]api.Line{line(0, 2, 3)}, []api.Line{line(0, 5, 3)}, []api.Line{line(0, 7, 3)}, true},
		{[]api.Line{line(0, 2, 3)}, []api.Line{line(0, -2, 3)}, []api.Line{line(0, 0, 3)}, true},
		{[]api.Line{line(1, 1, 2), line(1, 1, 1)}, []api.Line{line(0, 1, 9)}, []api.Line{line(0, 1, 9), line(1, 1, 1), line(1, 1, 2)}, true},
		{[]api.Line{line(2, 1, 1), line(-2, 1, 1), line(2, 1, 1)}, []api.Line{line(0, 4, -1), line(0, 3, 1), line(2, 5, 1)}, []api.Line{line(-2, 1, 1), line(0, 4, -1), line(0, 3, 1), line(2, 7, 1)}, true},
		{[]api.Line{line(math.MinInt, 1, 1)}, []api.Line{line(math.MaxInt, 1, math.MinInt), line(math.MaxInt, 1, math.MaxInt)}, []api.Line{line(math.MinInt, 1, 1), line(math.MaxInt, 1, math.MinInt), line(math.MaxInt, 1, math.MaxInt)}, true},
		{[]api.Line{line(0, math.MaxInt, 1)}, []api.Line{line(0, 1, 1)}, nil, false},
		{[]api.Line{line(0, math.MinInt, 1), line(1, 1, 1), line(0, -1, 1)}, nil, nil, false},
		{[]api.Line{line(9, 1, 1)}, []api.Line{line(9, math.MaxInt, 1), line(0, 1, 1)}, nil, false},
		{[]api.Line{line(0, math.MaxInt, 1)}, []api.Line{line(0, 1, 2), line(1, 1, 1)}, []api.Line{line(0, math.MaxInt, 1), line(0, 1, 2), line(1, 1, 1)}, true},
		{[]api.Line{line(0, math.MaxInt, 1), line(0, 1, 1)}, []api.Line{line(0, -1, 1)}, []api.Line{line(0, math.MaxInt, 1)}, true},
	} {
		if l, ok := tier.Merge(c.a, c.b); ok != c.ok || !slices.Equal(l, c.want) {
			t.Errorf("%+v and %+v: %+v, %v, not %+v", c.a, c.b, l, ok, c.want)
		}
		if l, ok := tier.Merge(c.b, c.a); ok != c.ok || !slices.Equal(l, c.want) {
			t.Errorf("%+v and %+v: %+v, %v, not %+v", c.b, c.a, l, ok, c.want)
		}
	}
}

// mixed answers lines of few tiers and prices, now and then of great counts.
func mixed(r *rand.Rand) []api.Line {
	l := make([]api.Line, r.Intn(12))
	for i := range l {
		l[i] = line(r.Intn(3)-1, r.Intn(100)-50, r.Intn(3)-1)
		if r.Intn(6) == 0 {
			l[i].Blocks = math.MaxInt - r.Intn(60)
		}
		if r.Intn(6) == 0 {
			l[i].Blocks = math.MinInt + r.Intn(60)
		}
	}
	return l
}

func TestP10_1_MergedLinesAgainstGreatNumbers(t *testing.T) {
	r := rand.New(rand.NewSource(104))
	for range 5000 {
		a, b := mixed(r), mixed(r)
		sums := map[[2]int]*big.Int{}
		for _, l := range append(slices.Clone(a), b...) {
			key := [2]int{l.Tier, l.Price}
			if sums[key] == nil {
				sums[key] = new(big.Int)
			}
			sums[key].Add(sums[key], big.NewInt(int64(l.Blocks)))
		}
		var want []api.Line
		fine := true
		for tier := -1; tier <= 1; tier++ {
			for price := -1; price <= 1; price++ {
				if n := sums[[2]int{tier, price}]; n != nil {
					fine = fine && n.IsInt64()
					want = append(want, line(tier, int(n.Int64()), price))
				}
			}
		}
		if !fine {
			want = nil
		}
		if l, ok := tier.Merge(a, b); ok != fine || !slices.Equal(l, want) {
			t.Fatalf("%+v and %+v: %+v, %v, not %+v", a, b, l, ok, want)
		}
	}
}

// roomy answers lines with spare room behind them, and all of that memory.
func roomy(l ...api.Line) (short, whole []api.Line) {
	whole = append(slices.Clone(l), line(71, 72, 73), line(74, 75, 76))
	return whole[:len(l)], whole
}

func TestP10_3_NothingHandedInIsChanged(t *testing.T) {
	tiers := []api.Tier{step(10, 3), step(0, 2), step(5, 5), step(6, 6)}
	x := priced(1, tiers[:2]...)
	a, wholeA := roomy(line(2, 1, 1), line(0, 1, 1))
	b, wholeB := roomy(line(1, 1, 1), line(0, 1, 1))
	was := fmt.Sprint(tiers, wholeA, wholeB)
	tier.Index(x, 12)
	tier.Split(x, 8, 5)
	x.Mode = 2
	tier.Split(x, 8, 5)
	tier.Cost(a)
	tier.Blocks(a)
	tier.Merge(a, b)
	tier.Merge(a, nil)
	tier.Merge(nil, b)
	if fmt.Sprint(tiers, wholeA, wholeB) != was {
		t.Error("what was handed in was changed")
	}
}

func TestP10_3_AnswersAreNewMemory(t *testing.T) {
	a, b := []api.Line{line(0, 1, 1), line(1, 1, 1)}, []api.Line{line(2, 2, 2)}
	was := fmt.Sprint(a, b)
	for _, l := range [][2][]api.Line{{a, b}, {a, nil}, {nil, b}} {
		merged, _ := tier.Merge(l[0], l[1])
		all := merged[:cap(merged)]
		for i := range all {
			all[i] = line(-1, -1, -1)
		}
	}
	if fmt.Sprint(a, b) != was {
		t.Error("merged lines share memory with an argument")
	}
	x := priced(1, step(10, 3), step(0, 2))
	first, _ := tier.Split(x, 8, 5)
	clear(first)
	if again, _ := tier.Split(x, 8, 5); !reflect.DeepEqual(again, []api.Line{line(0, 2, 3), line(1, 3, 2)}) {
		t.Error("two answers share memory")
	}
}
