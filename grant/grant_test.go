package grant_test

import (
	"fmt"
	"math"
	"math/rand"
	"reflect"
	"slices"
	"testing"

	"purser/api"
	"purser/grant"
	"purser/rate"
	"purser/tariff"
)

const (
	maxUnits    = 1 << 30
	maxPosition = 1 << 40
)

type one = grant.Grant

func priced(group, mode, block int, tiers ...api.Tier) api.Tariff {
	return api.Tariff{Group: group, Mode: mode, Block: block, Tiers: tiers}
}

// single answers a plan of one price.
func single(group, block, price int) tariff.Plan {
	return tariff.Plan{Base: priced(group, 1, block, api.Tier{Price: price})}
}

// night answers a plan of group 1, of blocks of 10, whose dearest price is 4, that of its other tariff.
func night() tariff.Plan {
	return tariff.Plan{
		Day: 24, From: 20, To: 6,
		Base:  priced(1, 1, 10, api.Tier{Upto: 10, Price: 3}, api.Tier{Price: 2}),
		Other: priced(1, 2, 10, api.Tier{Upto: 5, Price: 4}, api.Tier{Price: 1}),
	}
}

// wrong answers plans that are none, each in another way, for which CheckPlan has another error each.
func wrong() []tariff.Plan {
	form, unlike, tiers, order := night(), night(), night(), night()
	form.Day, form.From, form.To = 0, 0, 0
	unlike.Other.Group = 2
	tiers.Base.Tiers = nil
	order.Other.Tiers[1].Upto = 5
	return []tariff.Plan{{}, form, unlike, tiers, order, single(0, 1, 1), single(9, 1, 1), single(1, 0, 1), single(1, 1, 1<<20+1), single(1, 1, -1)}
}

// makes holds that so much is granted.
func makes(t *testing.T, p tariff.Plan, credit, want int, g one) {
	t.Helper()
	if got, err := grant.Make(p, credit, want); got != g || err != api.OK {
		t.Errorf("Make(credit %d, want %d): %+v, %d, not %+v", credit, want, got, err, g)
	}
}

// makesNone holds that nothing is granted.
func makesNone(t *testing.T, p tariff.Plan, credit, want int, wanted api.Errno) {
	t.Helper()
	if got, err := grant.Make(p, credit, want); got != (one{}) || err != wanted {
		t.Errorf("Make(%+v, credit %d, want %d): %+v, %d, not %d", p, credit, want, got, err, wanted)
	}
}

func TestP16_1_TheExample(t *testing.T) {
	p := single(1, 10, 3)
	g := one{1, 20, 6, true}
	makes(t, p, 7, 100, g)
	if x, left, err := grant.Settle(g, p, 0, 0, 15); x.Cost != 6 || left != 0 || err != api.OK {
		t.Error(x, left, err)
	}
}

func TestP16_1_MakeByCredit(t *testing.T) {
	p := single(3, 10, 3)
	makesNone(t, p, 0, 1, api.ErrCredit)
	makesNone(t, p, 2, 1, api.ErrCredit)
	makesNone(t, p, 2, maxUnits, api.ErrCredit)
	makes(t, p, 3, 1, one{3, 1, 3, false})
	makes(t, p, 3, 9, one{3, 9, 3, false})
	makes(t, p, 3, 10, one{3, 10, 3, false})
	makes(t, p, 3, 11, one{3, 10, 3, true})
	makes(t, p, 5, 11, one{3, 10, 3, true})
	makes(t, p, 6, 11, one{3, 11, 6, false})
	makes(t, p, math.MaxInt, 1, one{3, 1, 3, false})
	makes(t, p, math.MaxInt, maxUnits, one{3, maxUnits, 3 * ((maxUnits + 9) / 10), false})
	makes(t, p, 3*((maxUnits+9)/10)-1, maxUnits, one{3, maxUnits / 10 * 10, 3 * (maxUnits / 10), true})
}

func TestP16_1_MakeAtTheEdgesOfPrices(t *testing.T) {
	makes(t, single(8, 1, 0), 0, 1, one{8, 1, 0, false})
	makes(t, single(8, 1, 0), 0, maxUnits, one{8, maxUnits, 0, false})
	makes(t, single(8, maxUnits, 0), math.MaxInt, maxUnits, one{8, maxUnits, 0, false})
	makes(t, single(1, 1, 1<<20), 1<<50, maxUnits, one{1, maxUnits, 1 << 50, false})
	makes(t, single(1, 1, 1<<20), 1<<50-1, maxUnits, one{1, maxUnits - 1, 1<<50 - 1<<20, true})
	makes(t, single(1, 1, 1<<20), 1<<20, 2, one{1, 1, 1 << 20, true})
	makesNone(t, single(1, 1, 1<<20), 1<<20-1, 2, api.ErrCredit)
	makes(t, single(1, maxUnits, 7), 7, maxUnits, one{1, maxUnits, 7, false})
	makesNone(t, single(1, maxUnits, 7), 6, 1, api.ErrCredit)
}

func TestP16_1_MakeByTheDearestPriceOfBothTariffs(t *testing.T) {
	makes(t, night(), 11, 100, one{1, 20, 8, true})
	makesNone(t, night(), 3, 100, api.ErrCredit)
	dear := night()
	dear.Base.Tiers[1].Price = 9
	makes(t, dear, 11, 100, one{1, 10, 9, true})
	makesNone(t, dear, 8, 1, api.ErrCredit)
}

func TestP16_1_WhatIsNotMade(t *testing.T) {
	for _, p := range wrong() {
		for _, credit := range []int{-1, 0, 100} {
			for _, want := range []int{0, 1, 10} {
				makesNone(t, p, credit, want, api.ErrArg)
			}
		}
	}
	for _, p := range []tariff.Plan{night(), single(1, 10, 0)} {
		for _, want := range []int{0, -1, maxUnits + 1, math.MinInt, math.MaxInt} {
			// Too little credit is asked behind what is no argument.
			for _, credit := range []int{0, 3, 100, math.MaxInt, -1} {
				makesNone(t, p, credit, want, api.ErrArg)
			}
		}
		for _, credit := range []int{-1, math.MinInt} {
			makesNone(t, p, credit, 1, api.ErrArg)
			makesNone(t, p, credit, maxUnits, api.ErrArg)
		}
	}
}

// random answers a plan of a group, with ends of tiers up to 30, and prices below dear.
func random(r *rand.Rand, group, block, dear int) tariff.Plan {
	made := func() api.Tariff {
		x := priced(group, 1+r.Intn(2), block)
		upto := 0
		for range r.Intn(4) {
			upto += 1 + r.Intn(10)
			x.Tiers = append(x.Tiers, api.Tier{Upto: upto, Price: r.Intn(dear)})
		}
		x.Tiers = append(x.Tiers, api.Tier{Price: r.Intn(dear)})
		return x
	}
	p := tariff.Plan{Base: made()}
	if r.Intn(2) == 0 {
		p.Day, p.Other = 2+r.Intn(5), made()
		p.From = r.Intn(p.Day)
		p.To = (p.From + 1 + r.Intn(p.Day-1)) % p.Day
	}
	return p
}

// granted answers what Make has to, by asking of each count of units what it may cost at most.
func granted(p tariff.Plan, credit, want int) (one, api.Errno) {
	for units := want; units > 0; units-- {
		if worst, _ := rate.Worst(p, units); worst <= credit {
			return one{p.Base.Group, units, worst, units < want}, api.OK
		}
	}
	return one{}, api.ErrCredit
}

func TestP16_1_MakeAgainstAModel(t *testing.T) {
	r := rand.New(rand.NewSource(1))
	seen := map[api.Errno]int{}
	for range 5000 {
		p := random(r, 1+r.Intn(8), 1+r.Intn(5), 1+r.Intn(20))
		credit, want := r.Intn(100), 1+r.Intn(30)
		g, err := granted(p, credit, want)
		if got, e := grant.Make(p, credit, want); got != g || e != err {
			t.Fatalf("%+v, credit %d, want %d: %+v, %d, not %+v, %d", p, credit, want, got, e, g, err)
		}
		seen[err]++
	}
	if seen[api.OK] < 100 || seen[api.ErrCredit] < 100 {
		t.Error(seen)
	}
}

// many holds that these are granted, or none with an error.
func many(t *testing.T, l []tariff.Plan, credit int, wants []int, wanted api.Errno, g ...one) {
	t.Helper()
	if got, err := grant.Many(l, credit, wants); !slices.Equal(got, g) || err != wanted {
		t.Errorf("Many(credit %d, wants %v): %+v, %d, not %+v, %d", credit, wants, got, err, g, wanted)
	}
}

func TestP16_1_ManyByWhatThoseAheadLeave(t *testing.T) {
	cheap, dear, free := single(1, 10, 1), single(2, 10, 5), single(7, 10, 0)
	l := []tariff.Plan{cheap, dear, free}
	wants := []int{20, 20, 20}
	many(t, l, 12, wants, api.OK, one{1, 20, 2, false}, one{2, 20, 10, false}, one{7, 20, 0, false})
	many(t, l, 11, wants, api.OK, one{1, 20, 2, false}, one{2, 10, 5, true}, one{7, 20, 0, false})
	many(t, l, 7, wants, api.OK, one{1, 20, 2, false}, one{2, 10, 5, true}, one{7, 20, 0, false})
	many(t, l, 6, wants, api.OK, one{1, 20, 2, false}, one{2, 0, 0, true}, one{7, 20, 0, false})
	many(t, l, 1, wants, api.OK, one{1, 10, 1, true}, one{2, 0, 0, true}, one{7, 20, 0, false})
	many(t, l, 0, wants, api.OK, one{1, 0, 0, true}, one{2, 0, 0, true}, one{7, 20, 0, false})
	// What doesn't fit takes nothing, and what comes behind it may fit.
	many(t, []tariff.Plan{dear, cheap}, 4, []int{1, 30}, api.OK, one{2, 0, 0, true}, one{1, 30, 3, false})
	many(t, []tariff.Plan{dear, cheap}, 5, []int{1, 30}, api.OK, one{2, 1, 5, false}, one{1, 0, 0, true})
	many(t, []tariff.Plan{dear, cheap}, 0, []int{1, 30}, api.ErrCredit)
	many(t, []tariff.Plan{dear}, 4, []int{1}, api.ErrCredit)
	many(t, []tariff.Plan{dear}, 5, []int{11}, api.OK, one{2, 10, 5, true})
	many(t, []tariff.Plan{cheap, dear}, math.MaxInt, []int{1, maxUnits}, api.OK, one{1, 1, 1, false}, one{2, maxUnits, 5 * ((maxUnits + 9) / 10), false})
}

func TestP16_1_ManyOfSoMany(t *testing.T) {
	var l []tariff.Plan
	var wants []int
	var g []one
	many(t, nil, 9, nil, api.ErrArg)
	many(t, []tariff.Plan{}, 9, []int{}, api.ErrArg)
	for i := 1; i <= 8; i++ {
		l, wants, g = append(l, single(i, 1, i)), append(wants, i), append(g, one{i, i, i * i, false})
		if i > 4 {
			many(t, l, 1000, wants, api.ErrArg)
			many(t, l, 0, wants, api.ErrArg)
			continue
		}
		many(t, l, 1000, wants, api.OK, g...)
		many(t, l, 0, wants, api.ErrCredit)
		for _, unlike := range [][]int{nil, wants[1:], append(slices.Clone(wants), 1)} {
			many(t, l, 1000, unlike, api.ErrArg)
			many(t, l, 0, unlike, api.ErrArg)
		}
	}
	many(t, nil, 9, []int{1}, api.ErrArg)
}

func TestP16_1_ManyOfOneGroup(t *testing.T) {
	a, b, c := single(1, 1, 1), single(2, 2, 2), single(3, 3, 3)
	for _, again := range []tariff.Plan{single(1, 1, 1), single(1, 7, 5), night()} {
		for _, l := range [][]tariff.Plan{{a, again}, {a, b, again}, {b, a, again}, {a, again, b, c}, {c, b, a, again}, {a, b, c, again}, {again, b, c, a}} {
			wants := slices.Repeat([]int{1}, len(l))
			many(t, l, 1000, wants, api.ErrArg)
			many(t, l, 0, wants, api.ErrArg)
		}
	}
}

func TestP16_1_ManyOfWhatIsNoArgument(t *testing.T) {
	fits, dear := single(8, 1, 1), single(7, 1, 100)
	for _, first := range []tariff.Plan{fits, dear} {
		for _, want := range []int{0, -1, maxUnits + 1, math.MinInt, math.MaxInt} {
			many(t, []tariff.Plan{first, night()}, 50, []int{1, want}, api.ErrArg)
			many(t, []tariff.Plan{night(), first}, 50, []int{want, 1}, api.ErrArg)
			many(t, []tariff.Plan{single(2, 1, 1), first, night()}, 0, []int{1, 1, want}, api.ErrArg)
		}
		for _, p := range wrong() {
			many(t, []tariff.Plan{first, p}, 50, []int{1, 1}, api.ErrArg)
			many(t, []tariff.Plan{p, first}, 50, []int{1, 1}, api.ErrArg)
			many(t, []tariff.Plan{first, single(2, 1, 1), single(3, 1, 1), p}, 0, []int{1, 1, 1, 1}, api.ErrArg)
		}
		for _, credit := range []int{-1, math.MinInt} {
			many(t, []tariff.Plan{first}, credit, []int{1}, api.ErrArg)
			many(t, []tariff.Plan{first, night()}, credit, []int{1, 1}, api.ErrArg)
		}
	}
}

func TestP16_1_ManyAgainstAModel(t *testing.T) {
	r := rand.New(rand.NewSource(2))
	seen := map[string]int{}
	for range 5000 {
		var l []tariff.Plan
		var wants []int
		var g []one
		credit := r.Intn(100)
		left, wanted := credit, api.ErrCredit
		for _, group := range r.Perm(8)[:1+r.Intn(4)] {
			p, want := random(r, group+1, 1+r.Intn(5), 1+r.Intn(20)), 1+r.Intn(30)
			x, err := granted(p, left, want)
			if err == api.OK {
				wanted = api.OK
			} else {
				x = one{Group: group + 1, Final: true}
			}
			left -= x.Amount
			l, wants, g = append(l, p), append(wants, want), append(g, x)
		}
		if wanted != api.OK {
			g = nil
		}
		many(t, l, credit, wants, wanted, g...)
		seen[fmt.Sprint(len(l), wanted)]++
	}
	if len(seen) != 8 {
		t.Error(seen)
	}
}

// settles holds that a grant is settled with these left.
func settles(t *testing.T, g one, p tariff.Plan, now, position, used, left int) {
	t.Helper()
	want, err := rate.Rate(p, now, position, used)
	if err != api.OK {
		t.Fatalf("Rate at %d behind %d of %d: %d", now, position, used, err)
	}
	x, n, err := grant.Settle(g, p, now, position, used)
	if !reflect.DeepEqual(x, want) || n != left || err != api.OK {
		t.Errorf("Settle(%+v, at %d, behind %d, used %d): %+v, %d, %d, not %+v, %d", g, now, position, used, x, n, err, want, left)
	}
}

// settlesNot holds that a grant isn't settled.
func settlesNot(t *testing.T, g one, p tariff.Plan, now, position, used int, wanted api.Errno) {
	t.Helper()
	x, n, err := grant.Settle(g, p, now, position, used)
	if !reflect.DeepEqual(x, rate.Rated{}) || n != 0 || err != wanted {
		t.Errorf("Settle(%+v, at %d, behind %d, used %d): %+v, %d, %d, not %d", g, now, position, used, x, n, err, wanted)
	}
}

func TestP16_1_Settle(t *testing.T) {
	g := one{1, 100, 40, false}
	settles(t, g, night(), 12, 0, 0, 40)
	settles(t, g, night(), 12, 0, 1, 37)
	settles(t, g, night(), 12, 0, 10, 37)
	settles(t, g, night(), 12, 8, 50, 28)
	settles(t, g, night(), 19, 0, 100, 10)
	settles(t, g, night(), 20, 0, 50, 20)
	settles(t, g, night(), 29, 0, 51, 34)
	settles(t, g, night(), math.MaxInt, maxPosition, 100, 20)
	g.Final = true
	settles(t, g, night(), 29, maxPosition, 100, 30)
}

func TestP16_1_SettleAtTheEdges(t *testing.T) {
	p := single(1, 10, 3)
	g := one{1, 20, 6, false}
	settles(t, g, p, 0, 0, 20, 0)
	settlesNot(t, g, p, 0, 0, 21, api.ErrUsed)
	settles(t, one{1, 21, 9, false}, p, 0, 0, 21, 0)
	settlesNot(t, one{1, 21, 8, false}, p, 0, 0, 21, api.ErrFalse)
	settlesNot(t, one{1, 21, 0, false}, p, 0, 0, 1, api.ErrFalse)
	settles(t, one{1, 21, 0, false}, p, 0, 0, 0, 0)
	settles(t, one{1, 0, 0, true}, p, 0, 0, 0, 0)
	settles(t, one{1, 0, 5, true}, p, 0, 0, 0, 5)
	settlesNot(t, one{1, 0, 5, true}, p, 0, 0, 1, api.ErrUsed)
	settles(t, one{1, math.MaxInt, math.MaxInt, false}, p, 0, 0, 10, math.MaxInt-3)
	settles(t, one{1, maxUnits, 1 << 50, false}, single(1, 1, 1<<20), 0, 0, maxUnits, 0)
	settlesNot(t, one{1, maxUnits, 1<<50 - 1, false}, single(1, 1, 1<<20), 0, 0, maxUnits, api.ErrFalse)
	// More than is granted, that costs more than is held, is more than is granted first.
	settlesNot(t, one{1, 20, 6, false}, p, 0, 0, maxUnits, api.ErrUsed)
}

func TestP16_1_WhatIsNotSettled(t *testing.T) {
	right := one{1, 20, 9, false}
	for _, g := range []one{right, {1, 0, 0, true}, {1, 20, 0, false}} {
		for _, used := range []int{1, 20, 30} {
			for _, now := range []int{-1, math.MinInt} {
				settlesNot(t, g, night(), now, 0, used, api.ErrArg)
			}
			for _, position := range []int{-1, maxPosition + 1, math.MinInt, math.MaxInt} {
				settlesNot(t, g, night(), 0, position, used, api.ErrArg)
			}
			for _, p := range wrong() {
				settlesNot(t, g, p, 0, 0, used, api.ErrArg)
			}
		}
		for _, used := range []int{-1, maxUnits + 1, math.MinInt, math.MaxInt} {
			settlesNot(t, g, night(), 0, 0, used, api.ErrArg)
		}
	}
	for _, g := range []one{
		{2, 20, 9, false}, {0, 20, 9, false}, {-1, 20, 9, false}, {math.MaxInt, 20, 9, false},
		{1, -1, 9, false}, {1, math.MinInt, 9, false}, {1, 20, -1, false}, {1, 20, math.MinInt, false}, {1, -1, -1, false}, {2, 0, 0, false}, {},
	} {
		for _, used := range []int{0, 1, 20, 21} {
			settlesNot(t, g, night(), 0, 0, used, api.ErrArg)
		}
	}
	settlesNot(t, one{1, math.MaxInt, math.MaxInt, false}, night(), 0, 0, maxUnits+1, api.ErrArg)
}

func TestP16_1_Held(t *testing.T) {
	of := func(amounts ...int) []one {
		l := make([]one, len(amounts))
		for i, n := range amounts {
			l[i] = one{Group: 7, Units: 1000, Amount: n, Final: i == 0}
		}
		return l
	}
	for _, c := range []struct {
		l    []one
		want int
	}{
		{nil, 0}, {of(), 0}, {of(0), 0}, {of(5), 5}, {of(5, 6, 7, 8, 9), 35}, {of(1<<53, 1<<53, 1<<53, 1<<53), 1 << 55},
		{of(math.MaxInt), math.MaxInt}, {of(math.MaxInt, 1), 0}, {of(math.MaxInt-1, 1), math.MaxInt}, {of(math.MaxInt, math.MaxInt, 2), 0},
		{of(math.MinInt), math.MinInt}, {of(math.MinInt, -1), 0}, {of(-5, 3), -2}, {of(5, -5), 0},
		{of(math.MaxInt, 1, -1), math.MaxInt}, {of(math.MinInt, -1, 1), math.MinInt}, {of(math.MaxInt, math.MaxInt, math.MinInt), math.MaxInt - 1},
	} {
		if n := grant.Held(c.l); n != c.want {
			t.Errorf("Held(%+v): %d, not %d", c.l, n, c.want)
		}
	}
}

func TestP16_2_WhatIsGrantedCostsAtMostWhatIsHeld(t *testing.T) {
	r := rand.New(rand.NewSource(3))
	for range 3000 {
		var l []tariff.Plan
		var wants []int
		for _, group := range r.Perm(8)[:1+r.Intn(4)] {
			l, wants = append(l, random(r, group+1, 1+r.Intn(5), 1+r.Intn(20))), append(wants, 1+r.Intn(30))
		}
		credit := r.Intn(300)
		grants, err := grant.Many(l, credit, wants)
		if err != api.OK {
			continue
		}
		if held := grant.Held(grants); held > credit {
			t.Fatalf("of %d, %d are held: %+v", credit, held, grants)
		}
		for i, g := range grants {
			now, position, used := r.Intn(10), r.Intn(40), r.Intn(g.Units+1)
			x, left, err := grant.Settle(g, l[i], now, position, used)
			if err != api.OK || left < 0 || x.Cost+left != g.Amount {
				t.Fatalf("%+v of %+v, at %d, behind %d, used %d: %+v, %d, %d", g, l[i], now, position, used, x, left, err)
			}
		}
	}
}

// bare answers all that is in a plan.
func bare(p tariff.Plan) string { return fmt.Sprintf("%+v", p) }

func TestP16_3_WhatIsHandedInIsNotKeptOrChanged(t *testing.T) {
	room := make([]tariff.Plan, 2, 4)
	room[0], room[1] = night(), single(2, 10, 5)
	wants := append(make([]int, 0, 8), 100, 100)
	spare := room[:4]
	before := bare(room[0]) + bare(room[1])
	g, err := grant.Many(room, 30, wants)
	if err != api.OK {
		t.Fatal(err)
	}
	again, _ := grant.Many(room, 30, wants)
	kept := slices.Clone(again)
	if bare(room[0])+bare(room[1]) != before || !slices.Equal(wants[:8], []int{100, 100, 0, 0, 0, 0, 0, 0}) || !reflect.DeepEqual(spare[2:], make([]tariff.Plan, 2)) {
		t.Error("an argument has changed")
	}
	clear(g)
	clear(g[:cap(g)])
	if !slices.Equal(again, kept) {
		t.Error("two answers share memory")
	}
	room[0].Base.Tiers[0].Price, room[0].Other.Tiers[0].Price = 0, 0
	if !slices.Equal(again, kept) {
		t.Error("an answer shares memory with a plan")
	}
	grant.Held(again[:1])
	if !slices.Equal(again, kept) {
		t.Error("Held has changed its argument")
	}
}

func TestP16_3_SettledLinesAreNewMemory(t *testing.T) {
	p := night()
	g := one{1, 100, 40, false}
	x, _, _ := grant.Settle(g, p, 12, 8, 50)
	y, _, _ := grant.Settle(g, p, 12, 8, 50)
	clear(x.Lines[:cap(x.Lines)])
	p.Base.Tiers[0].Price, p.Base.Tiers[1].Price = 0, 0
	if !slices.Equal(y.Lines, []api.Line{{Tier: 0, Blocks: 2, Price: 3}, {Tier: 1, Blocks: 3, Price: 2}}) {
		t.Error(y.Lines)
	}
}
