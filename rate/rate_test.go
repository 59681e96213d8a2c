package rate_test

import (
	"fmt"
	"math"
	"math/rand"
	"reflect"
	"slices"
	"testing"

	"purser/api"
	"purser/rate"
	"purser/tariff"
)

const (
	maxPosition = 1 << 40
	maxUnits    = 1 << 30
	maxPrice    = 1 << 20
)

func step(upto, price int) api.Tier { return api.Tier{Upto: upto, Price: price} }

func line(tier, blocks, price int) api.Line {
	return api.Line{Tier: tier, Blocks: blocks, Price: price}
}

func priced(mode, block int, tiers ...api.Tier) api.Tariff {
	return api.Tariff{Group: 1, Mode: mode, Block: block, Tiers: tiers}
}

// single answers a plan of one price.
func single(block, price int) tariff.Plan {
	return tariff.Plan{Base: priced(1, block, step(0, price))}
}

// night answers a plan whose other tariff is dearer or cheaper, from 20 on till 6.
func night() tariff.Plan {
	return tariff.Plan{Day: 24, From: 20, To: 6, Base: priced(1, 10, step(10, 3), step(0, 2)), Other: priced(2, 10, step(5, 4), step(0, 1))}
}

// wrong answers plans that are none, each in another way.
func wrong() []tariff.Plan {
	early, other, unlike, tiers, mode := night(), night(), night(), night(), night()
	early.From = 24
	other.Day, other.From, other.To = 0, 0, 0
	unlike.Other.Block = 11
	tiers.Base.Tiers = nil
	mode.Other.Mode = 3
	return []tariff.Plan{{}, early, other, unlike, tiers, mode, single(0, 1), single(1, maxPrice+1), single(maxUnits+1, 1)}
}

// rated holds a rating to what is wanted.
func rated(t *testing.T, p tariff.Plan, now, position, units int, want rate.Rated) {
	t.Helper()
	x, err := rate.Rate(p, now, position, units)
	if err != api.OK || !slices.Equal(x.Lines, want.Lines) || x.Blocks != want.Blocks || x.Cost != want.Cost || x.Position != want.Position {
		t.Errorf("at %d behind %d, %d units: %+v, %d, not %+v", now, position, units, x, err, want)
	}
}

func of(blocks, cost, position int, l ...api.Line) rate.Rated {
	return rate.Rated{Lines: l, Blocks: blocks, Cost: cost, Position: position}
}

func TestP11_1_TheExample(t *testing.T) {
	rated(t, single(10, 3), 0, 0, 11, of(2, 6, 2, line(0, 2, 3)))
	if n, cost, err := rate.Fit(single(10, 3), 7, 100); n != 20 || cost != 6 || err != api.OK {
		t.Error(n, cost, err)
	}
}

func TestP11_1_RatedByTheTariffOfItsTime(t *testing.T) {
	p := night()
	rated(t, p, 19, 8, 50, of(5, 12, 13, line(0, 2, 3), line(1, 3, 2)))
	rated(t, p, 6, 8, 50, of(5, 12, 13, line(0, 2, 3), line(1, 3, 2)))
	rated(t, p, 20, 8, 50, of(5, 5, 13, line(1, 5, 1)))
	rated(t, p, 29, 8, 50, of(5, 5, 13, line(1, 5, 1)))
	rated(t, p, 0, 0, 50, of(5, 20, 5, line(0, 5, 4)))
	rated(t, p, 0, 0, 51, of(6, 6, 6, line(1, 6, 1)))
	rated(t, p, 30, 9, 11, of(2, 5, 11, line(0, 1, 3), line(1, 1, 2)))
}

func TestP11_1_UnitsAtTheirEdges(t *testing.T) {
	p := single(10, 3)
	rated(t, p, 0, 7, 0, of(0, 0, 7))
	rated(t, p, 0, 7, 1, of(1, 3, 8, line(0, 1, 3)))
	rated(t, p, 0, 7, 10, of(1, 3, 8, line(0, 1, 3)))
	rated(t, p, math.MaxInt, 7, 20, of(2, 6, 9, line(0, 2, 3)))
	rated(t, single(maxUnits, 5), 0, 0, maxUnits, of(1, 5, 1, line(0, 1, 5)))
	rated(t, single(1, maxPrice), 3, maxPosition, maxUnits, of(maxUnits, 1<<50, maxPosition+maxUnits, line(0, maxUnits, maxPrice)))
	rated(t, single(1, 0), 3, 0, maxUnits, of(maxUnits, 0, maxUnits, line(0, maxUnits, 0)))
}

func TestP11_1_WhatIsNotRated(t *testing.T) {
	type args struct {
		p                    tariff.Plan
		now, position, units int
	}
	var all []args
	for _, n := range []int{-1, math.MinInt} {
		all = append(all, args{night(), n, 0, 0}, args{night(), 0, n, 0}, args{night(), 0, n, 5}, args{night(), 0, 0, n})
	}
	all = append(all, args{night(), 0, maxPosition + 1, 0}, args{night(), 0, math.MaxInt, 1})
	all = append(all, args{night(), 0, 0, maxUnits + 1}, args{night(), 0, 0, math.MaxInt})
	for _, p := range wrong() {
		all = append(all, args{p, 0, 0, 0}, args{p, 21, 0, 1})
	}
	for _, a := range all {
		if x, err := rate.Rate(a.p, a.now, a.position, a.units); err != api.ErrArg || !reflect.DeepEqual(x, rate.Rated{}) {
			t.Errorf("%+v: %+v, %d", a, x, err)
		}
	}
}

// random answers a plan with ends of tiers up to most, and prices below dear.
func random(r *rand.Rand, most, block, dear int) tariff.Plan {
	made := func() api.Tariff {
		x := priced(1+r.Intn(2), block)
		upto := 0
		for range r.Intn(6) {
			upto += 1 + r.Intn(most)
			x.Tiers = append(x.Tiers, step(upto, r.Intn(dear)))
		}
		x.Tiers = append(x.Tiers, step(0, r.Intn(dear)))
		return x
	}
	p := tariff.Plan{Base: made()}
	if r.Intn(3) > 0 {
		p.Day = 2 + r.Intn(20)
		p.From = r.Intn(p.Day)
		p.To = (p.From + 1 + r.Intn(p.Day-1)) % p.Day
		p.Other = made()
	}
	return p
}

// tierOf answers the tier of a block.
func tierOf(x api.Tariff, block int) int {
	i := 0
	for x.Tiers[i].Upto != 0 && x.Tiers[i].Upto < block {
		i++
	}
	return i
}

// slowly rates block by block, taking them from the units one by one.
func slowly(p tariff.Plan, now, position, units int) rate.Rated {
	x, _ := tariff.At(p, now)
	got := rate.Rated{Position: position}
	for ; units > 0; units -= x.Block {
		got.Blocks++
		got.Position++
	}
	counts := make([]int, len(x.Tiers))
	for block := position + 1; block <= got.Position; block++ {
		i := tierOf(x, block)
		if x.Mode == api.Volume {
			i = tierOf(x, got.Position)
		}
		counts[i]++
		got.Cost += x.Tiers[i].Price
	}
	for i, n := range counts {
		if n > 0 {
			got.Lines = append(got.Lines, line(i, n, x.Tiers[i].Price))
		}
	}
	return got
}

func TestP11_1_RatedBlockByBlock(t *testing.T) {
	r := rand.New(rand.NewSource(11))
	for range 3000 {
		p := random(r, 10, 1+r.Intn(5), 9)
		now, position, units := r.Intn(60), r.Intn(40), r.Intn(120)
		rated(t, p, now, position, units, slowly(p, now, position, units))
	}
}

// worst answers what units may cost at most, from the plan's prices alone.
func worst(p tariff.Plan, units int) int {
	dearest := 0
	for _, tier := range append(slices.Clone(p.Base.Tiers), p.Other.Tiers...) {
		if tier.Price > dearest {
			dearest = tier.Price
		}
	}
	return (units + p.Base.Block - 1) / p.Base.Block * dearest
}

func TestP11_1_WhatUnitsCostAtMost(t *testing.T) {
	for _, c := range []struct {
		p           tariff.Plan
		units, want int
	}{
		{single(10, 3), 0, 0}, {single(10, 3), 1, 3}, {single(10, 3), 10, 3}, {single(10, 3), 11, 6},
		{single(10, 0), 11, 0}, {night(), 11, 8}, {single(1, maxPrice), maxUnits, 1 << 50}, {single(maxUnits, 7), maxUnits, 7},
	} {
		if n, err := rate.Worst(c.p, c.units); n != c.want || err != api.OK {
			t.Errorf("%+v, %d units: %d, %d", c.p, c.units, n, err)
		}
	}
	// The dearest price may be of any tier, of either tariff.
	for i := range 12 {
		p := tariff.Plan{Day: 2, To: 1}
		p.Base = priced(1, 2, step(1, 1), step(2, 1), step(3, 1), step(4, 1), step(5, 1), step(0, 1))
		p.Other = priced(1, 2, slices.Clone(p.Base.Tiers)...)
		if i < 6 {
			p.Base.Tiers[i].Price = 9
		} else {
			p.Other.Tiers[i-6].Price = 9
		}
		if n, err := rate.Worst(p, 3); n != 18 || err != api.OK {
			t.Errorf("%+v: %d, %d", p, n, err)
		}
	}
}

func TestP11_1_OfWhatNeitherWorstNorFitIsTold(t *testing.T) {
	type args struct {
		p     tariff.Plan
		units int
	}
	all := []args{{night(), -1}, {night(), math.MinInt}, {night(), maxUnits + 1}, {night(), math.MaxInt}}
	for _, p := range wrong() {
		all = append(all, args{p, 0}, args{p, 5})
	}
	for _, a := range all {
		if n, err := rate.Worst(a.p, a.units); n != 0 || err != api.ErrArg {
			t.Errorf("%+v: %d, %d", a, n, err)
		}
		for _, credit := range []int{-1, 0, 100} {
			if n, cost, err := rate.Fit(a.p, credit, a.units); n != 0 || cost != 0 || err != api.ErrArg {
				t.Errorf("%+v: %d, %d, %d", a, n, cost, err)
			}
		}
	}
	for _, credit := range []int{-1, math.MinInt} {
		for _, want := range []int{0, 5} {
			if n, cost, err := rate.Fit(single(1, 0), credit, want); n != 0 || cost != 0 || err != api.ErrArg {
				t.Errorf("credit %d: %d, %d, %d", credit, n, cost, err)
			}
		}
	}
}

func TestP11_2_WhatIsRatedCostsAtMostWorst(t *testing.T) {
	r := rand.New(rand.NewSource(112))
	for range 5000 {
		p := random(r, 1<<r.Intn(36), 1+r.Intn(1<<r.Intn(20)), maxPrice+1)
		units := r.Intn(1 + r.Intn(maxUnits+1))
		most, err := rate.Worst(p, units)
		if err != api.OK || most != worst(p, units) {
			t.Fatalf("%+v, %d units: %d, %d", p, units, most, err)
		}
		for range 5 {
			now, position := r.Intn(100), r.Intn(1<<r.Intn(41))
			if x, err := rate.Rate(p, now, position, units); err != api.OK || x.Cost > most {
				t.Fatalf("%+v at %d behind %d, %d units: %+v, %d, above %d", p, now, position, units, x, err, most)
			}
		}
	}
}

func TestP11_1_WhatACreditDoesFor(t *testing.T) {
	for _, c := range []struct {
		p                        tariff.Plan
		credit, want, units, may int
	}{
		{single(10, 3), 0, 100, 0, 0},
		{single(10, 3), 2, 100, 0, 0},
		{single(10, 3), 3, 100, 10, 3},
		{single(10, 3), 5, 100, 10, 3},
		{single(10, 3), 6, 100, 20, 6},
		{single(10, 3), 29, 100, 90, 27},
		{single(10, 3), 30, 100, 100, 30},
		{single(10, 3), 31, 100, 100, 30},
		{single(10, 3), 5, 11, 10, 3},
		{single(10, 3), 6, 11, 11, 6},
		{single(10, 3), 3, 9, 9, 3},
		{single(10, 3), 2, 9, 0, 0},
		{single(10, 3), 9, 0, 0, 0},
		{single(10, 3), 0, 0, 0, 0},
		{single(10, 3), math.MaxInt, maxUnits, maxUnits, (maxUnits/10 + 1) * 3},
		{single(10, 0), 0, 100, 100, 0},
		{single(10, 0), math.MaxInt, maxUnits, maxUnits, 0},
		{single(1, maxPrice), 1 << 50, maxUnits, maxUnits, 1 << 50},
		{single(1, maxPrice), 1<<50 - 1, maxUnits, maxUnits - 1, 1<<50 - maxPrice},
		{single(maxUnits, 5), 4, maxUnits, 0, 0},
		{single(maxUnits, 5), 5, maxUnits, maxUnits, 5},
		{night(), 11, 100, 20, 8},
	} {
		if n, cost, err := rate.Fit(c.p, c.credit, c.want); n != c.units || cost != c.may || err != api.OK {
			t.Errorf("%+v, credit %d, %d wanted: %d, %d, %d", c.p, c.credit, c.want, n, cost, err)
		}
	}
}

func TestP11_3_WhatFitTellsFitsAndOneUnitMoreDoesNot(t *testing.T) {
	r := rand.New(rand.NewSource(113))
	for i := range 10000 {
		block, dear, want := 1+r.Intn(5), 9, r.Intn(40)
		if i%2 == 1 {
			block, dear, want = 1+r.Intn(1<<r.Intn(31)), maxPrice+1, r.Intn(maxUnits+1)
		}
		p := random(r, 50, block, dear)
		credit := r.Intn(worst(p, want) + 10)
		if i%5 == 0 {
			credit = worst(p, r.Intn(want+1))
		}
		n, cost, err := rate.Fit(p, credit, want)
		if err != api.OK || n < 0 || n > want || cost != worst(p, n) || cost > credit {
			t.Fatalf("%+v, credit %d, %d wanted: %d, %d, %d", p, credit, want, n, cost, err)
		}
		if n < want && worst(p, n+1) <= credit {
			t.Fatalf("%+v, credit %d, %d wanted: not %d alone", p, credit, want, n)
		}
	}
}

func TestP11_4_NothingHandedInIsChangedOrShared(t *testing.T) {
	p := night()
	base := append(p.Base.Tiers, step(71, 72), step(73, 74))
	other := append(p.Other.Tiers, step(75, 76), step(77, 78))
	p.Base.Tiers, p.Other.Tiers = base[:2], other[:2]
	was := fmt.Sprint(p, base, other)
	first, _ := rate.Rate(p, 10, 8, 50)
	second, _ := rate.Rate(p, 10, 8, 50)
	rate.Rate(p, 21, 8, 50)
	rate.Worst(p, 11)
	rate.Fit(p, 11, 100)
	if fmt.Sprint(p, base, other) != was {
		t.Error("the plan was changed")
	}
	clear(first.Lines[:cap(first.Lines)])
	if !slices.Equal(second.Lines, []api.Line{line(0, 2, 3), line(1, 3, 2)}) || fmt.Sprint(p, base, other) != was {
		t.Error("an answer shares memory")
	}
}
