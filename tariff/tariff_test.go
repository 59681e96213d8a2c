package tariff_test

import (
	"encoding/binary"
	"fmt"
	"math"
	"math/rand"
	"reflect"
	"slices"
	"testing"

	"purser/api"
	"purser/tariff"
)

const (
	maxUpto = 1 << 40
	maxDay  = 1 << 30
)

func step(upto, price int) api.Tier { return api.Tier{Upto: upto, Price: price} }

func priced(group, mode, block int, tiers ...api.Tier) api.Tariff {
	return api.Tariff{Group: group, Mode: mode, Block: block, Tiers: tiers}
}

// six answers a tariff of as many tiers as there may be.
func six() api.Tariff {
	return priced(8, 1, 1<<30, step(1, 0), step(2, 1<<20), step(10, 5), step(1<<39, 4), step(maxUpto, 0), step(0, 7))
}

// day answers a plan of two tariffs.
func day(length, from, to int) tariff.Plan {
	return tariff.Plan{Day: length, From: from, To: to, Base: priced(3, 1, 10, step(10, 3), step(0, 2)), Other: priced(3, 2, 10, step(0, 9))}
}

func TestP9_1_ATariffAtItsEdgesIsOne(t *testing.T) {
	for _, x := range []api.Tariff{
		six(),
		priced(1, 1, 1, step(0, 0)),
		priced(8, 2, 1<<30, step(0, 1<<20)),
		priced(1, 1, 1, step(1, 0), step(0, 0)),
		priced(1, 1, 1, step(maxUpto, 0), step(0, 0)),
		priced(1, 1, 1, step(maxUpto-1, 0), step(maxUpto, 3), step(0, 0)),
	} {
		if err := tariff.Check(x); err != api.OK {
			t.Errorf("%+v: %d", x, err)
		}
	}
}

// A fault makes a right tariff one that is answered by err.
type fault struct {
	err   api.Errno
	spoil func(x *api.Tariff)
}

func setGroup(n int) fault {
	return fault{api.ErrArg, func(x *api.Tariff) { x.Group = n }}
}

func setBlock(n int) fault {
	return fault{api.ErrArg, func(x *api.Tariff) { x.Block = n }}
}

func setMode(n int) fault {
	return fault{api.ErrKind, func(x *api.Tariff) { x.Mode = n }}
}

func setPrice(i, n int) fault {
	return fault{api.ErrArg, func(x *api.Tariff) {
		if i < len(x.Tiers) {
			x.Tiers[i].Price = n
		}
	}}
}

func setUpto(i, n int) fault {
	return fault{api.ErrOrder, func(x *api.Tariff) {
		if i < len(x.Tiers) {
			x.Tiers[i].Upto = n
		}
	}}
}

func setTiers(n int) fault {
	return fault{api.ErrBig, func(x *api.Tariff) {
		x.Tiers = slices.Clone(x.Tiers[:min(n, len(x.Tiers))])
		for len(x.Tiers) < n {
			x.Tiers = append(x.Tiers, step(0, 1))
		}
	}}
}

// faults answers steps of faults, in the order in which they are looked for; those of one step are of one place.
func faults() [][]fault {
	wrong := []int{-1, 0, math.MinInt, math.MaxInt}
	var args, kinds, counts []fault
	for _, n := range append(wrong, 9) {
		args = append(args, setGroup(n))
	}
	for _, n := range append(wrong, 1<<30+1) {
		args = append(args, setBlock(n))
	}
	for _, n := range append(wrong, 3) {
		kinds = append(kinds, setMode(n))
	}
	for _, n := range []int{0, 7, 8, 1000} {
		counts = append(counts, setTiers(n))
	}
	all := [][]fault{args, kinds, counts}
	uptos := [][]int{
		{0, -1, math.MinInt, math.MaxInt, maxUpto + 1},
		{0, 1, -1, math.MinInt, maxUpto + 1},
		{0, 2, 1, math.MinInt, maxUpto + 1},
		{0, 10, 9, -1, maxUpto + 1},
		{0, 1 << 39, maxUpto + 1, math.MaxInt},
		{1, -1, maxUpto, maxUpto + 1, math.MinInt},
	}
	for i, l := range uptos {
		var prices, orders []fault
		for _, n := range []int{-1, 1<<20 + 1, math.MinInt, math.MaxInt} {
			prices = append(prices, setPrice(i, n))
		}
		for _, n := range l {
			orders = append(orders, setUpto(i, n))
		}
		all = append(all, prices, orders)
	}
	return all
}

func TestP9_1_TheFirstThingThatIsWrongWithATariff(t *testing.T) {
	all := faults()
	for i, first := range all {
		for _, a := range first {
			x := six()
			a.spoil(&x)
			if err := tariff.Check(x); err != a.err {
				t.Errorf("%+v: %d, not %d", x, err, a.err)
			}
			for _, second := range all[i+1:] {
				for _, b := range second {
					// What is wrong later is spoilt first, so that it can't undo the first fault.
					y := six()
					b.spoil(&y)
					a.spoil(&y)
					if err := tariff.Check(y); err != a.err {
						t.Errorf("%+v: %d, not %d", y, err, a.err)
					}
				}
			}
		}
	}
}

func TestP9_1_NothingIsNoTariff(t *testing.T) {
	if err := tariff.Check(api.Tariff{}); err != api.ErrArg {
		t.Error(err)
	}
	if err := tariff.CheckPlan(tariff.Plan{}); err != api.ErrArg {
		t.Error(err)
	}
	none := priced(1, 1, 1)
	if err := tariff.Check(none); err != api.ErrBig {
		t.Error(err)
	}
	none.Tiers = []api.Tier{}
	if err := tariff.Check(none); err != api.ErrBig {
		t.Error(err)
	}
}

func TestP9_1_APlanAtItsEdgesIsOne(t *testing.T) {
	emptied := tariff.Plan{Base: six()}
	emptied.Other.Tiers = []api.Tier{}
	same := day(5, 1, 2)
	same.Other = same.Base
	for _, p := range []tariff.Plan{
		{Base: six()}, emptied, same,
		day(2, 0, 1), day(2, 1, 0), day(maxDay, 0, maxDay-1), day(maxDay, maxDay-1, 0), day(24, 20, 6), day(24, 6, 20),
	} {
		if err := tariff.CheckPlan(p); err != api.OK {
			t.Errorf("%+v: %d", p, err)
		}
	}
}

func TestP9_1_APlanOfOneTariffHasNothingElse(t *testing.T) {
	for _, spoil := range []func(p *tariff.Plan){
		func(p *tariff.Plan) { p.From = 1 },
		func(p *tariff.Plan) { p.From = -1 },
		func(p *tariff.Plan) { p.To = 1 },
		func(p *tariff.Plan) { p.To = math.MinInt },
		func(p *tariff.Plan) { p.Other = p.Base },
		func(p *tariff.Plan) { p.Other.Group = 1 },
		func(p *tariff.Plan) { p.Other.Mode = 1 },
		func(p *tariff.Plan) { p.Other.Block = 1 },
		func(p *tariff.Plan) { p.Other.Tiers = make([]api.Tier, 1) },
	} {
		p := tariff.Plan{Base: six()}
		spoil(&p)
		if err := tariff.CheckPlan(p); err != api.ErrForm {
			t.Errorf("%+v: %d", p, err)
		}
		p.Base.Tiers[5].Upto = 1
		if err := tariff.CheckPlan(p); err != api.ErrOrder {
			t.Errorf("%+v: %d", p, err)
		}
	}
}

func TestP9_1_TheFirstThingThatIsWrongWithAPlan(t *testing.T) {
	type spoil = func(p *tariff.Plan)
	steps := []struct {
		err  api.Errno
		ways []spoil
	}{
		{api.ErrKind, []spoil{func(p *tariff.Plan) { p.Base.Mode = 3 }}},
		{api.ErrArg, []spoil{
			func(p *tariff.Plan) { p.Day = 1 },
			func(p *tariff.Plan) { p.Day, p.From, p.To = 1, 0, 0 },
			func(p *tariff.Plan) { p.Day = maxDay + 1 },
			func(p *tariff.Plan) { p.Day = math.MaxInt },
			func(p *tariff.Plan) { p.Day = -24 },
			func(p *tariff.Plan) { p.Day = math.MinInt },
			func(p *tariff.Plan) { p.From = -1 },
			func(p *tariff.Plan) { p.From = 24 },
			func(p *tariff.Plan) { p.From = p.To },
			func(p *tariff.Plan) { p.To = -1 },
			func(p *tariff.Plan) { p.To = 24 },
			func(p *tariff.Plan) { p.To = math.MinInt },
		}},
		{api.ErrBig, []spoil{func(p *tariff.Plan) { p.Other.Tiers = nil }}},
		{api.ErrFalse, []spoil{
			func(p *tariff.Plan) { p.Other.Group = 4 },
			func(p *tariff.Plan) { p.Other.Block = 11 },
			func(p *tariff.Plan) { p.Other.Group, p.Other.Block = 4, 11 },
		}},
	}
	for i, first := range steps {
		for _, a := range first.ways {
			p := day(24, 20, 6)
			a(&p)
			if err := tariff.CheckPlan(p); err != first.err {
				t.Errorf("%+v: %d, not %d", p, err, first.err)
			}
			for _, second := range steps[i+1:] {
				for _, b := range second.ways {
					p := day(24, 20, 6)
					b(&p)
					a(&p)
					if err := tariff.CheckPlan(p); err != first.err {
						t.Errorf("%+v: %d, not %d", p, err, first.err)
					}
				}
			}
		}
	}
}

func TestP9_1_TheOtherTariffOfAPlanIsCheckedToo(t *testing.T) {
	for _, step := range faults() {
		for _, a := range step {
			p := tariff.Plan{Day: 2, To: 1, Base: six(), Other: six()}
			a.spoil(&p.Other)
			if err := tariff.CheckPlan(p); err != a.err {
				t.Errorf("other %+v: %d, not %d", p.Other, err, a.err)
			}
			p.Base, p.Other = p.Other, p.Base
			if err := tariff.CheckPlan(p); err != a.err {
				t.Errorf("base %+v: %d, not %d", p.Base, err, a.err)
			}
		}
	}
}

// others answers at which times of a day it is the other tariff: those met on the way from From to To.
func others(p tariff.Plan) map[int]bool {
	all := map[int]bool{}
	for at := p.From; at != p.To; at = (at + 1) % p.Day {
		all[at] = true
	}
	return all
}

func TestP9_1_WhichTariffItIsAtEachTime(t *testing.T) {
	for length := 2; length <= 8; length++ {
		for from := range length {
			for to := range length {
				if from == to {
					continue
				}
				p := day(length, from, to)
				all := others(p)
				for now := range 3 * length {
					want := p.Base
					if all[now%length] {
						want = p.Other
					}
					if x, other := tariff.At(p, now); other != all[now%length] || !reflect.DeepEqual(x, want) {
						t.Errorf("day %d from %d to %d at %d: %+v, %v", length, from, to, now, x, other)
					}
				}
			}
		}
	}
}

func TestP9_1_TheExampleOfTheNight(t *testing.T) {
	p := day(24, 20, 6)
	for now, want := range map[int]bool{0: true, 5: true, 6: false, 19: false, 20: true, 23: true, 24: true, 29: true, 30: false, 43: false, 44: true} {
		if _, other := tariff.At(p, now); other != want {
			t.Errorf("at %d: %v", now, other)
		}
	}
	for now, want := range map[int]int{0: 6, 5: 6, 6: 20, 19: 20, 20: 30, 23: 30, 29: 30, 30: 44} {
		if next, ok := tariff.Next(p, now); next != want || !ok {
			t.Errorf("behind %d: %d, %v", now, next, ok)
		}
	}
}

func TestP9_1_OneTariffIsItAlways(t *testing.T) {
	p := tariff.Plan{Base: six()}
	for _, now := range []int{0, 1, 1 << 40, math.MaxInt} {
		if x, other := tariff.At(p, now); other || !reflect.DeepEqual(x, six()) {
			t.Error(now, x, other)
		}
		if next, ok := tariff.Next(p, now); next != 0 || ok {
			t.Error(now, next, ok)
		}
	}
}

func TestP9_1_OfNoPlanOrNoTimeThereIsNothing(t *testing.T) {
	bad := day(24, 20, 6)
	bad.Other.Block = 11
	single := tariff.Plan{From: 1, Base: six()}
	for _, c := range []struct {
		p   tariff.Plan
		now int
	}{{day(24, 20, 6), -1}, {day(24, 20, 6), math.MinInt}, {bad, 0}, {bad, 21}, {single, 3}, {tariff.Plan{}, 0}, {day(1, 0, 0), 0}, {day(0, 0, 0), 0}} {
		if x, other := tariff.At(c.p, c.now); other || !reflect.DeepEqual(x, api.Tariff{}) {
			t.Errorf("%+v at %d: %+v, %v", c.p, c.now, x, other)
		}
		if next, ok := tariff.Next(c.p, c.now); next != 0 || ok {
			t.Errorf("%+v behind %d: %d, %v", c.p, c.now, next, ok)
		}
	}
}

// next answers when the plan changes next, by looking tick by tick.
func next(p tariff.Plan, now int) (int, bool) {
	_, was := tariff.At(p, now)
	for now < math.MaxInt {
		now++
		if _, is := tariff.At(p, now); is != was {
			return now, true
		}
	}
	return 0, false
}

func TestP9_3_BetweenNowAndNextItIsOneTariff(t *testing.T) {
	for length := 2; length <= 7; length++ {
		for from := range length {
			for to := range length {
				if from == to {
					continue
				}
				p := day(length, from, to)
				times := []int{}
				for i := range 2 * length {
					times = append(times, i, 1<<40+i, math.MaxInt-i)
				}
				for _, now := range times {
					want, fine := next(p, now)
					if n, ok := tariff.Next(p, now); n != want || ok != fine {
						t.Errorf("day %d from %d to %d behind %d: %d, %v, not %d, %v", length, from, to, now, n, ok, want, fine)
					}
				}
			}
		}
	}
}

func TestP9_3_TheLastChangeThatIsAnInt(t *testing.T) {
	// The greatest int modulo 8 is 7: the change at 7 is the last one, that at 0 would be no int.
	p := day(8, 7, 0)
	if n, ok := tariff.Next(p, math.MaxInt-1); n != math.MaxInt || !ok {
		t.Error(n, ok)
	}
	if n, ok := tariff.Next(p, math.MaxInt); n != 0 || ok {
		t.Error(n, ok)
	}
	p = day(8, 0, 6)
	if n, ok := tariff.Next(p, math.MaxInt-1); n != 0 || ok {
		t.Error(n, ok)
	}
}

func TestP9_3_TheLongestDay(t *testing.T) {
	p := day(maxDay, maxDay-1, 0)
	for now, want := range map[int]int{0: maxDay - 1, maxDay - 2: maxDay - 1, maxDay - 1: maxDay, maxDay: 2*maxDay - 1} {
		if n, ok := tariff.Next(p, now); n != want || !ok {
			t.Error(now, n, ok)
		}
	}
	// The greatest int is the last time of such a day.
	if n, ok := tariff.Next(p, math.MaxInt-1); n != math.MaxInt || !ok {
		t.Error(n, ok)
	}
	if n, ok := tariff.Next(p, math.MaxInt); n != 0 || ok {
		t.Error(n, ok)
	}
}

func TestP9_1_ThePlanChangesThoughBothTariffsAreTheSame(t *testing.T) {
	p := day(24, 20, 6)
	p.Other = tariff.Copy(p.Base)
	if n, ok := tariff.Next(p, 7); n != 20 || !ok {
		t.Error(n, ok)
	}
	if _, other := tariff.At(p, 20); !other {
		t.Error("not the other one")
	}
}

func TestP9_1_TheDearestPrice(t *testing.T) {
	for _, c := range []struct {
		prices []int
		want   int
	}{{nil, 0}, {[]int{0}, 0}, {[]int{-5, math.MinInt}, 0}, {[]int{-5, 3, -7}, 3}, {[]int{1, 9, 4}, 9}, {[]int{9, 1, 4}, 9}, {[]int{1, 4, 9}, 9}, {[]int{math.MaxInt, 2}, math.MaxInt}} {
		x := api.Tariff{}
		for _, price := range c.prices {
			x.Tiers = append(x.Tiers, step(0, price))
		}
		if n := tariff.Dearest(x); n != c.want {
			t.Errorf("%v: %d", c.prices, n)
		}
	}
}

func TestP9_1_ACopyIsTheSameAndAnythingElseIsNot(t *testing.T) {
	odd := priced(-3, 99, math.MinInt, step(-1, -1), step(-1, -1))
	for _, x := range []api.Tariff{{}, six(), odd} {
		if y := tariff.Copy(x); !reflect.DeepEqual(x, y) || !tariff.Same(x, y) || !tariff.Same(y, x) {
			t.Errorf("%+v: %+v", x, y)
		}
	}
	if !tariff.Same(api.Tariff{}, api.Tariff{Tiers: []api.Tier{}}) {
		t.Error("no tiers are no tiers")
	}
	for _, spoil := range []func(x *api.Tariff){
		func(x *api.Tariff) { x.Group-- },
		func(x *api.Tariff) { x.Mode++ },
		func(x *api.Tariff) { x.Block-- },
		func(x *api.Tariff) { x.Tiers = x.Tiers[:5] },
		func(x *api.Tariff) { x.Tiers = append(x.Tiers, step(0, 7)) },
		func(x *api.Tariff) { x.Tiers = nil },
		func(x *api.Tariff) { x.Tiers[0].Price++ },
		func(x *api.Tariff) { x.Tiers[5].Upto++ },
		func(x *api.Tariff) { x.Tiers[1], x.Tiers[2] = x.Tiers[2], x.Tiers[1] },
	} {
		y := six()
		spoil(&y)
		if tariff.Same(six(), y) || tariff.Same(y, six()) {
			t.Errorf("%+v is another one", y)
		}
	}
}

// uints answers counts as bytes, as layer 3 writes them.
func uints(l ...int) []byte {
	var b []byte
	for _, n := range l {
		b = binary.AppendUvarint(b, uint64(n))
	}
	return b
}

// numbers answers what a plan's bytes count.
func numbers(p tariff.Plan) []int {
	l := []int{p.Day, p.From, p.To}
	all := []api.Tariff{p.Base}
	if p.Day != 0 {
		all = append(all, p.Other)
	}
	for _, x := range all {
		l = append(l, x.Group, x.Mode, x.Block, len(x.Tiers))
		for _, tier := range x.Tiers {
			l = append(l, tier.Upto, tier.Price)
		}
	}
	return l
}

func TestP9_1_ThePartsOfAPlan(t *testing.T) {
	one := tariff.Plan{Base: priced(1, 2, 300, step(0, 5))}
	if b, err := tariff.Write(one); err != api.OK || !slices.Equal(b, []byte{0, 0, 0, 1, 2, 0xAC, 2, 1, 0, 5}) {
		t.Errorf("% X, %d", b, err)
	}
	two := day(24, 20, 6)
	if b, err := tariff.Write(two); err != api.OK || !slices.Equal(b, []byte{24, 20, 6, 3, 1, 10, 2, 10, 3, 0, 2, 3, 2, 10, 1, 0, 9}) {
		t.Errorf("% X, %d", b, err)
	}
}

// random answers a plan that is right.
func random(r *rand.Rand) tariff.Plan {
	x := func(group, block int) api.Tariff {
		made := priced(group, 1+r.Intn(2), block)
		upto := 0
		for range r.Intn(6) {
			upto += 1 + r.Intn(1<<r.Intn(37))
			made.Tiers = append(made.Tiers, step(upto, r.Intn(1<<20+1)))
		}
		made.Tiers = append(made.Tiers, step(0, r.Intn(1<<20+1)))
		return made
	}
	group, block := 1+r.Intn(8), 1+r.Intn(1<<30)
	p := tariff.Plan{Base: x(group, block)}
	if r.Intn(2) == 0 {
		p.Day = 2 + r.Intn(maxDay-1)
		p.From = r.Intn(p.Day)
		p.To = (p.From + 1 + r.Intn(p.Day-1)) % p.Day
		p.Other = x(group, block)
	}
	return p
}

func TestP9_2_APlanComesBackFromItsBytes(t *testing.T) {
	r := rand.New(rand.NewSource(9))
	plans := []tariff.Plan{{Base: six()}, day(2, 0, 1), day(maxDay, maxDay-1, 0), {Day: 2, To: 1, Base: six(), Other: six()}}
	for range 2000 {
		plans = append(plans, random(r))
	}
	for _, p := range plans {
		b, err := tariff.Write(p)
		if err != api.OK || !slices.Equal(b, uints(numbers(p)...)) {
			t.Fatalf("%+v: % X, %d", p, b, err)
		}
		if q, err := tariff.Read(b); err != api.OK || !reflect.DeepEqual(p, q) {
			t.Fatalf("%+v: %+v, %d", p, q, err)
		}
	}
}

// refused holds that bytes are no plan's.
func refused(t *testing.T, b []byte, want api.Errno) {
	t.Helper()
	if p, err := tariff.Read(b); err != want || !reflect.DeepEqual(p, tariff.Plan{}) {
		t.Errorf("% X: %+v, %d, not %d", b, p, err, want)
	}
}

func TestP9_1_WhatIsNoPlanIsNotWritten(t *testing.T) {
	for _, step := range faults() {
		for _, a := range step {
			p := tariff.Plan{Base: six()}
			a.spoil(&p.Base)
			if b, err := tariff.Write(p); err != a.err || b != nil {
				t.Errorf("%+v: % X, %d", p, b, err)
			}
		}
	}
	p := day(24, 20, 6)
	p.Other.Group = 4
	if b, err := tariff.Write(p); err != api.ErrFalse || b != nil {
		t.Errorf("% X, %d", b, err)
	}
	p.Day = 0
	if b, err := tariff.Write(p); err != api.ErrForm || b != nil {
		t.Errorf("% X, %d", b, err)
	}
}

func TestP9_1_BytesCutShortOrWithMoreBehindAreNoPlan(t *testing.T) {
	for _, p := range []tariff.Plan{{Base: six()}, day(24, 20, 6), {Day: 2, To: 1, Base: six(), Other: six()}} {
		b := uints(numbers(p)...)
		for n := range b {
			refused(t, b[:n], api.ErrForm)
		}
		for _, more := range []byte{0, 1, 0x80} {
			refused(t, append(slices.Clone(b), more), api.ErrForm)
		}
	}
	refused(t, nil, api.ErrForm)
	// Of Day 0 there is no other tariff to be read.
	one, two := numbers(day(24, 20, 6)), numbers(day(24, 20, 6))
	one[0], one[1], one[2] = 0, 0, 0
	refused(t, uints(one...), api.ErrForm)
	refused(t, uints(two[:11]...), api.ErrForm)
}

func TestP9_1_NumbersAndCountsThatAreTooGreat(t *testing.T) {
	p := tariff.Plan{Day: 24, From: 20, To: 6, Base: six(), Other: six()}
	all := numbers(p)
	for i := range all {
		isCount := i == 6 || i == 22
		for _, n := range []int{maxUpto + 1, math.MaxInt} {
			l := slices.Clone(all)
			l[i] = n
			refused(t, uints(l...), api.ErrForm)
		}
		if isCount {
			l := slices.Insert(slices.Clone(all), i+1, 0, 1)
			l[i] = 7
			refused(t, uints(l...), api.ErrForm)
			continue
		}
		l := slices.Clone(all)
		l[i] = maxUpto
		spoilt := built(l)
		if want := tariff.CheckPlan(spoilt); want != api.OK {
			refused(t, uints(l...), want)
		} else if q, err := tariff.Read(uints(l...)); err != api.OK || !reflect.DeepEqual(q, spoilt) {
			t.Errorf("%d: %+v, %d", i, q, err)
		}
	}
}

// built answers the plan of such numbers, with another tariff if there are some of it.
func built(l []int) tariff.Plan {
	p := tariff.Plan{Day: l[0], From: l[1], To: l[2]}
	take := func(l []int) (api.Tariff, []int) {
		x := priced(l[0], l[1], l[2])
		for i := range l[3] {
			x.Tiers = append(x.Tiers, step(l[4+2*i], l[5+2*i]))
		}
		return x, l[4+2*l[3]:]
	}
	p.Base, l = take(l[3:])
	if len(l) > 0 {
		p.Other, _ = take(l)
	}
	return p
}

func TestP9_1_PartsOfWhatIsNoPlan(t *testing.T) {
	for _, c := range []struct {
		l    []int
		want api.Errno
	}{
		{[]int{0, 1, 0, 1, 1, 1, 1, 0, 5}, api.ErrForm},
		{[]int{0, 0, 1, 1, 1, 1, 1, 0, 5}, api.ErrForm},
		{[]int{0, 0, 0, 0, 1, 1, 1, 0, 5}, api.ErrArg},
		{[]int{0, 0, 0, 1, 0, 1, 1, 0, 5}, api.ErrKind},
		{[]int{0, 0, 0, 1, 1, 1, 0}, api.ErrBig},
		{[]int{0, 0, 0, 1, 1, 1, 1, 0, 1<<20 + 1}, api.ErrArg},
		{[]int{0, 0, 0, 1, 1, 1, 1, 1, 5}, api.ErrOrder},
		{[]int{1, 0, 0, 1, 1, 1, 1, 0, 5, 1, 1, 1, 1, 0, 5}, api.ErrArg},
		{[]int{2, 0, 0, 1, 1, 1, 1, 0, 5, 1, 1, 1, 1, 0, 5}, api.ErrArg},
		{[]int{2, 0, 1, 1, 1, 1, 1, 0, 5, 1, 3, 1, 1, 0, 5}, api.ErrKind},
		{[]int{2, 0, 1, 1, 1, 1, 1, 0, 5, 1, 1, 1, 0}, api.ErrBig},
		{[]int{2, 0, 1, 1, 1, 1, 1, 0, 5, 2, 1, 1, 1, 0, 5}, api.ErrFalse},
		{[]int{2, 0, 1, 1, 1, 1, 1, 0, 5, 1, 1, 2, 1, 0, 5}, api.ErrFalse},
	} {
		refused(t, uints(c.l...), c.want)
	}
	// A number in a second way, and one without an end.
	refused(t, []byte{0, 0, 0, 1, 1, 1, 1, 0, 0x85, 0}, api.ErrForm)
	refused(t, append([]byte{0, 0, 0, 1, 1, 1, 1, 0}, slices.Repeat([]byte{0xFF}, 20)...), api.ErrForm)
}

func TestP9_2_AllBytesAreAPlansOrRefused(t *testing.T) {
	r := rand.New(rand.NewSource(92))
	for i := range 20000 {
		var b []byte
		if i%2 == 0 {
			b = make([]byte, r.Intn(24))
			for i := range b {
				b[i] = byte(r.Intn(1 + r.Intn(256)))
			}
		} else {
			b = uints(numbers(random(r))...)
			b[r.Intn(len(b))] = byte(r.Intn(256))
		}
		p, err := tariff.Read(b)
		if err != api.OK {
			if !reflect.DeepEqual(p, tariff.Plan{}) {
				t.Fatalf("% X: %+v, %d", b, p, err)
			}
			continue
		}
		if again, err := tariff.Write(p); err != api.OK || !slices.Equal(again, b) {
			t.Fatalf("% X: %+v: % X, %d", b, p, again, err)
		}
	}
}

// roomy answers the tiers with spare room behind them, and all of that memory.
func roomy(l []api.Tier) (short, whole []api.Tier) {
	whole = append(slices.Clone(l), step(71, 72), step(73, 74))
	return whole[:len(l)], whole
}

func TestP9_4_NothingHandedInIsChanged(t *testing.T) {
	p := day(24, 20, 6)
	var base, other []api.Tier
	p.Base.Tiers, base = roomy(p.Base.Tiers)
	p.Other.Tiers, other = roomy(p.Other.Tiers)
	was := fmt.Sprint(p, base, other)
	tariff.Check(p.Base)
	tariff.CheckPlan(p)
	tariff.At(p, 1)
	tariff.Next(p, 1)
	tariff.Dearest(p.Base)
	tariff.Copy(p.Base)
	tariff.Same(p.Base, p.Other)
	b, _ := tariff.Write(p)
	if fmt.Sprint(p, base, other) != was {
		t.Error("a plan was changed")
	}
	whole := append(slices.Clone(b), 7, 8, 9)
	kept := slices.Clone(whole)
	tariff.Read(whole[:len(b)])
	tariff.Read(whole)
	if !slices.Equal(whole, kept) {
		t.Error("bytes were changed")
	}
}

func TestP9_4_AnswersAreNewMemory(t *testing.T) {
	p := day(24, 20, 6)
	was := fmt.Sprint(p)
	base, _ := tariff.At(p, 10)
	other, _ := tariff.At(p, 1)
	copied := tariff.Copy(p.Base)
	for _, x := range []api.Tariff{base, other, copied} {
		for i := range x.Tiers {
			x.Tiers[i] = step(-1, -1)
		}
		_ = append(x.Tiers[:0], step(5, 5))
	}
	if fmt.Sprint(p) != was {
		t.Error("an answer shares the plan's tiers")
	}
	b, _ := tariff.Write(p)
	again, _ := tariff.Write(p)
	q, _ := tariff.Read(b)
	clear(b)
	if fmt.Sprint(q) != was || !slices.Equal(again, uints(numbers(p)...)) {
		t.Error("an answer shares bytes")
	}
	spare := q.Base.Tiers[:cap(q.Base.Tiers)]
	for i := range spare {
		spare[i] = step(-1, -1)
	}
	if fmt.Sprint(q.Other) != fmt.Sprint(p.Other) {
		t.Error("both tariffs of an answer share tiers")
	}
}
