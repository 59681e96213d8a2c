package replay_test

import (
	"fmt"
	"math"
	"math/rand"
	"slices"
	"testing"

	"purser/api"
	"purser/entry"
	"purser/journal"
	"purser/replay"
)

func TestP28_1_Example(t *testing.T) {
	j := of(t, made(entry.TopUp, 9, 0, 1), made(entry.Hold, 4, 0, 1))
	rowsAre(t, "the example", j, []row{{1, account{Topped: 9, Held: 4}}}, api.OK)
	uptoIs(t, "the example", j, 1, []row{{1, account{Topped: 9}}}, api.OK)
}

func TestP28_1_NoEntries(t *testing.T) {
	late := journal.New()
	for range 31 {
		late.Close()
	}
	for what, j := range map[string]*journal.Journal{"new": journal.New(), "of no New": new(journal.Journal), "in the last period": late} {
		rowsAre(t, what, j, nil, api.OK)
		uptoIs(t, what, j, 0, nil, api.OK)
		uptoIs(t, what, j, 1, nil, api.ErrArg)
		uptoIs(t, what, j, -1, nil, api.ErrArg)
	}
}

func TestP28_1_Nil(t *testing.T) {
	if l, err := replay.Rows(nil); len(l) != 0 || err != api.ErrArg {
		t.Errorf("Rows: %v, %d", l, err)
	}
	for _, n := range []int{math.MinInt, -1, 0, 1, math.MaxInt} {
		uptoIs(t, "nil", nil, n, nil, api.ErrArg)
	}
}

func TestP28_1_Counts(t *testing.T) {
	j := of(t, made(entry.TopUp, 9, 0, 7), made(entry.TopUp, 5, 0, 3), made(entry.Hold, 2, 0, 7))
	for n, want := range [][]row{
		nil,
		{{7, account{Topped: 9}}},
		{{3, account{Topped: 5}}, {7, account{Topped: 9}}},
		{{3, account{Topped: 5}}, {7, account{Topped: 9, Held: 2}}},
	} {
		uptoIs(t, "a count that is there", j, n, want, api.OK)
	}
	for _, n := range []int{-1, 4, 5, 16384, math.MinInt, math.MaxInt} {
		uptoIs(t, "a count that isn't there", j, n, nil, api.ErrArg)
	}
}

// Of each part of an account what the entries say, whatever they are told to be.
func TestP28_1_EachPart(t *testing.T) {
	top := made(entry.TopUp, 50, 0, 4)
	for what, c := range map[string]struct {
		l    []entry.Entry
		want account
	}{
		"topped":                    {nil, account{Topped: 50}},
		"topped twice":              {[]entry.Entry{top}, account{Topped: 100}},
		"held":                      {[]entry.Entry{made(entry.Hold, 9, 0, 4)}, account{Topped: 50, Held: 9}},
		"released":                  {[]entry.Entry{made(entry.Hold, 9, 0, 4), made(entry.Release, 2, 0, 4)}, account{Topped: 50, Held: 7}},
		"used":                      {[]entry.Entry{made(entry.Hold, 9, 0, 4), made(entry.Commit, 3, 8, 4)}, account{Topped: 50, Held: 6, Used: 3}},
		"used in two groups":        {[]entry.Entry{made(entry.Hold, 9, 0, 4), made(entry.Commit, 3, 8, 4), made(entry.Commit, 1, 1, 4)}, account{Topped: 50, Held: 5, Used: 4}},
		"refunded":                  {[]entry.Entry{made(entry.Hold, 9, 0, 4), made(entry.Commit, 9, 8, 4), made(entry.Refund, 4, 8, 4)}, account{Topped: 50, Used: 5}},
		"refunded in another group": {[]entry.Entry{made(entry.Hold, 9, 0, 4), made(entry.Commit, 9, 8, 4), made(entry.Refund, 4, 2, 4)}, account{Topped: 50, Used: 5}},
		"expired":                   {[]entry.Entry{made(entry.Expire, 9, 0, 4)}, account{Topped: 50, Expired: 9}},
		"of another node":           {[]entry.Entry{two(entry.Hold, 9, heldOf(5), cash), two(entry.TopUp, 9, fundsOf(5), heldOf(5))}, account{Topped: 50}},
		"funds by another kind":     {[]entry.Entry{two(entry.Refund, 9, fundsOf(4), cash)}, account{Topped: 50, Carried: 9}},
		"a top-up that takes":       {[]entry.Entry{two(entry.TopUp, 9, cash, fundsOf(4))}, account{Topped: 41}},
		"a top-up that holds":       {[]entry.Entry{two(entry.TopUp, 9, heldOf(4), fundsOf(4))}, account{Topped: 41, Carried: 9, Held: 9}},
		"a top-up that is held":     {[]entry.Entry{two(entry.TopUp, 9, heldOf(4), cash)}, account{Topped: 50, Carried: 9, Held: 9}},
		"a top-up of use":           {[]entry.Entry{two(entry.TopUp, 9, usageOf(4, 3), cash)}, account{Topped: 50, Carried: 9, Used: 9}},
		"a release that expires":    {[]entry.Entry{two(entry.Release, 9, expiredOf(4), fundsOf(4))}, account{Topped: 50, Expired: 9}},
		"use out of nothing":        {[]entry.Entry{two(entry.Hold, 9, usageOf(4, 1), cash)}, account{Topped: 50, Carried: 9, Used: 9}},
		"carried for use":           {[]entry.Entry{two(entry.Commit, 50, fundsOf(4), cash), two(entry.Commit, 50, usageOf(4, 1), fundsOf(4))}, account{Topped: 50, Carried: 50, Used: 50}},
		"cash and back":             {[]entry.Entry{two(entry.Commit, 50, fundsOf(4), cash), two(entry.Commit, 50, cash, fundsOf(4))}, account{Topped: 50}},
	} {
		j := of(t, append([]entry.Entry{top}, c.l...)...)
		want := []row{{4, c.want}}
		if what == "of another node" {
			want = append(want, row{5, account{Topped: 9}})
		}
		rowsAre(t, what, j, want, api.OK)
	}
}

// What is no account, at whatever node: no rows, of none.
func TestP28_1_NoAccounts(t *testing.T) {
	full := []entry.Entry{two(entry.TopUp, most, fundsOf(9), cash)}
	grown := func(l ...entry.Entry) []entry.Entry { return append(slices.Clone(full), l...) }
	for what, l := range map[string][]entry.Entry{
		"Topped below":               {two(entry.Hold, 5, fundsOf(9), cash), two(entry.TopUp, 1, cash, fundsOf(9))},
		"Held below":                 grown(two(entry.Hold, 1, fundsOf(8), heldOf(9))),
		"Used below":                 grown(two(entry.Hold, 1, fundsOf(8), usageOf(9, 5))),
		"Expired below":              grown(two(entry.Hold, 1, fundsOf(8), expiredOf(9))),
		"Carried below":              grown(two(entry.Hold, 1, cash, fundsOf(9))),
		"Available below":            {two(entry.Hold, 1, heldOf(9), fundsOf(9))},
		"Available below of nothing": {two(entry.Hold, 1, cash, fundsOf(9))},
		"Topped above":               grown(two(entry.TopUp, 1, fundsOf(9), cash)),
		"Carried above":              {two(entry.Hold, most, fundsOf(9), cash), two(entry.Hold, 1, fundsOf(9), cash)},
		"Topped and Carried above":   grown(two(entry.Refund, 1, fundsOf(9), cash)),
		"Held above":                 {two(entry.Hold, most, heldOf(9), cash), two(entry.Hold, 1, heldOf(9), cash)},
		"Used above":                 {two(entry.Hold, most, usageOf(9, 1), cash), two(entry.Hold, 1, usageOf(9, 2), cash)},
		"Expired above":              {two(entry.Hold, most, expiredOf(9), cash), two(entry.Hold, 1, expiredOf(9), cash)},
		"Held and Used above":        {two(entry.Hold, most, usageOf(9, 1), cash), two(entry.Hold, 1, heldOf(9), cash)},
	} {
		for _, others := range [][]entry.Entry{nil, {made(entry.TopUp, 7, 0, 1)}, {made(entry.TopUp, 7, 0, 1), made(entry.TopUp, 7, 0, 32)}} {
			j := of(t, append(slices.Clone(others), l...)...)
			rowsAre(t, what, j, nil, api.ErrFalse)
			uptoIs(t, what, j, j.Len(), nil, api.ErrFalse)
			uptoIs(t, what, j, len(others), rowsOf(others), api.OK)
		}
	}
}

// rowsOf answers the rows of top-ups of 7, of unlike nodes.
func rowsOf(l []entry.Entry) []row {
	var rows []row
	for _, e := range l {
		rows = append(rows, row{e.Legs[1].Account.Node, account{Topped: 7}})
	}
	return rows
}

// Each part may be nought, and may be MaxAmount.
func TestP28_1_Edges(t *testing.T) {
	for _, amount := range []int{1, most} {
		for what, c := range map[string]struct {
			l    []entry.Entry
			want account
		}{
			"Topped":  {[]entry.Entry{two(entry.TopUp, amount, fundsOf(32), cash)}, account{Topped: amount}},
			"Carried": {[]entry.Entry{two(entry.Refund, amount, fundsOf(32), cash)}, account{Carried: amount}},
			"Held":    {[]entry.Entry{two(entry.Hold, amount, heldOf(32), cash)}, account{Carried: amount, Held: amount}},
			"Used":    {[]entry.Entry{two(entry.Hold, amount, usageOf(32, 8), cash)}, account{Carried: amount, Used: amount}},
			"Expired": {[]entry.Entry{two(entry.Hold, amount, expiredOf(32), cash)}, account{Carried: amount, Expired: amount}},
			"topped and held": {
				[]entry.Entry{two(entry.TopUp, amount, fundsOf(32), cash), two(entry.Hold, amount, heldOf(32), fundsOf(32))}, account{Topped: amount, Held: amount},
			},
		} {
			rowsAre(t, fmt.Sprint(what, amount), of(t, c.l...), []row{{32, c.want}}, api.OK)
		}
	}
}

// around answers a pair of entries that move an amount from one account to another one, by the first kind, and back by the second.
func around(first, second int, credit, debit entry.Account) []entry.Entry {
	return []entry.Entry{two(first, most, credit, debit), two(second, most, debit, credit)}
}

// Sums that leave the ints, and would be small again if they wrapped round, are no accounts; those that come back are.
func TestP28_1_GreatSums(t *testing.T) {
	for _, pairs := range []int{1023, 1024, 1025, 2047, 2048, 2049, 4096} {
		what := fmt.Sprint(pairs, " pairs")
		topped, back, opposite := journal.New(), journal.New(), journal.New()
		for range pairs {
			post(t, topped, around(entry.TopUp, entry.Hold, fundsOf(1), heldOf(2))...)
			post(t, back, around(entry.TopUp, entry.TopUp, fundsOf(1), heldOf(2))...)
			post(t, opposite, around(entry.Hold, entry.TopUp, fundsOf(1), heldOf(2))...)
		}
		for _, j := range []*journal.Journal{topped, opposite} {
			rowsAre(t, what, j, nil, api.ErrFalse)
			post(t, j, made(entry.TopUp, 9, 0, 1))
			rowsAre(t, what, j, nil, api.ErrFalse)
		}
		rowsAre(t, what, back, nil, api.OK)
		post(t, back, made(entry.TopUp, 9, 0, 1))
		rowsAre(t, what, back, []row{{1, account{Topped: 9}}}, api.OK)
		// In the next period what was topped is carried.
		topped.Close()
		post(t, topped, made(entry.TopUp, 5, 0, 1))
		rowsAre(t, what, topped, []row{{1, account{Topped: 5, Carried: 9}}}, api.OK)
	}
}

// One account is moved by at most 2^61 within a period, those of all groups by 2^64.
func TestP28_1_UseOfAllGroups(t *testing.T) {
	j := journal.New()
	for range 64 {
		for group := 1; group <= 8; group++ {
			post(t, j, two(entry.Hold, most, usageOf(1, group), usageOf(2, group)), two(entry.Hold, most, usageOf(1, group), usageOf(2, group)))
		}
	}
	rowsAre(t, "before", j, nil, api.ErrFalse)
	j.Close()
	for range 128 {
		for group := 1; group <= 8; group++ {
			post(t, j, two(entry.Hold, most, usageOf(2, group), usageOf(1, group)), two(entry.Hold, most, usageOf(2, group), usageOf(1, group)))
		}
	}
	if n := 8 * j.Moved(usageOf(2, 1), 1); n != 0 || j.Moved(usageOf(2, 1), 1) != -1<<61 {
		t.Fatalf("they don't come round to 0, but to %d", n)
	}
	rowsAre(t, "round", j, nil, api.ErrFalse)
	post(t, j, two(entry.Hold, 5, fundsOf(1), cash))
	rowsAre(t, "round, and 5", j, nil, api.ErrFalse)
	j.Close()
	rowsAre(t, "a period behind", j, []row{{1, account{Carried: 5}}}, api.OK)
}

func TestP28_1_Noughts(t *testing.T) {
	top, hold := made(entry.TopUp, 9, 0, 3, 1), made(entry.Hold, 9, 0, 1, 3)
	j := of(t, top, hold, entry.Opposite(hold), entry.Opposite(top))
	rowsAre(t, "to nought again", j, nil, api.OK)
	post(t, j, made(entry.TopUp, 2, 0, 2))
	rowsAre(t, "nodes of noughts around", j, []row{{2, account{Topped: 2}}}, api.OK)
	post(t, j, two(entry.TopUp, 4, fundsOf(1), heldOf(2)), two(entry.TopUp, 4, heldOf(2), fundsOf(1)))
	rowsAre(t, "named by legs that come to nought", j, []row{{2, account{Topped: 2}}}, api.OK)
	// A node that has nothing, but had its share of the period, isn't of noughts.
	post(t, j, made(entry.TopUp, 6, 0, 1), made(entry.Expire, 6, 0, 1))
	rowsAre(t, "all of it expired", j, []row{{1, account{Topped: 6, Expired: 6}}, {2, account{Topped: 2}}}, api.OK)
	j.Close()
	rowsAre(t, "in the next period", j, []row{{2, account{Carried: 2}}}, api.OK)
}

func TestP28_1_NodesRise(t *testing.T) {
	r := rand.New(rand.NewSource(281))
	for range 20 {
		j := journal.New()
		for _, i := range r.Perm(32) {
			post(t, j, made(entry.TopUp, i+1, 0, i+1))
		}
		l, err := replay.Rows(j)
		if len(l) != 32 || err != api.OK {
			t.Fatalf("%v, %d", l, err)
		}
		for i, x := range l {
			if x != (row{i + 1, account{Topped: i + 1}}) {
				t.Errorf("row %d: %+v", i, x)
			}
		}
	}
}

// The period of the last entry is open for Upto, whatever the journal's is.
func TestP28_1_OpenPeriods(t *testing.T) {
	j := of(t, made(entry.TopUp, 90, 0, 1), made(entry.Hold, 40, 0, 1), made(entry.Commit, 15, 2, 1))
	before := []row{{1, account{Topped: 90, Held: 25, Used: 15}}}
	rowsAre(t, "period 0", j, before, api.OK)
	j.Close()
	behind := []row{{1, account{Carried: 75, Held: 25}}}
	rowsAre(t, "period 1", j, behind, api.OK)
	uptoIs(t, "period 1", j, 3, before, api.OK)
	for range 3 {
		j.Close()
	}
	rowsAre(t, "period 4", j, behind, api.OK)
	uptoIs(t, "period 4", j, 3, before, api.OK)
	uptoIs(t, "period 4", j, 0, nil, api.OK)
	post(t, j, made(entry.Commit, 5, 2, 1), made(entry.TopUp, 1, 0, 1), made(entry.Refund, 2, 2, 1), made(entry.Expire, 30, 0, 1))
	uptoIs(t, "period 4", j, 3, before, api.OK)
	uptoIs(t, "period 4", j, 4, []row{{1, account{Carried: 75, Held: 20, Used: 5}}}, api.OK)
	uptoIs(t, "period 4", j, 5, []row{{1, account{Topped: 1, Carried: 75, Held: 20, Used: 5}}}, api.OK)
	uptoIs(t, "period 4", j, 6, []row{{1, account{Topped: 1, Carried: 75, Held: 20, Used: 3}}}, api.OK)
	rowsAre(t, "period 4", j, []row{{1, account{Topped: 1, Carried: 75, Expired: 30, Held: 20, Used: 3}}}, api.OK)
	j.Close()
	rowsAre(t, "period 5", j, []row{{1, account{Carried: 43, Held: 20}}}, api.OK)
	uptoIs(t, "period 5", j, 7, []row{{1, account{Topped: 1, Carried: 75, Expired: 30, Held: 20, Used: 3}}}, api.OK)
}

// A refund of what was used in an earlier period is use below nought: no purse makes it.
func TestP28_1_UseOfAnotherPeriod(t *testing.T) {
	j := of(t, made(entry.TopUp, 9, 0, 1), made(entry.Hold, 4, 0, 1), made(entry.Commit, 4, 1, 1))
	j.Close()
	post(t, j, made(entry.Refund, 1, 1, 1))
	rowsAre(t, "refunded behind the period", j, nil, api.ErrFalse)
	uptoIs(t, "ahead of it", j, 3, []row{{1, account{Topped: 9, Used: 4}}}, api.OK)
	j.Close()
	rowsAre(t, "a period behind", j, []row{{1, account{Carried: 6}}}, api.OK)
	uptoIs(t, "all entries", j, 4, nil, api.ErrFalse)
}

func TestP28_1_AFullJournal(t *testing.T) {
	j := journal.New()
	for i := range 16384 {
		if i%600 == 599 {
			j.Close()
		}
		post(t, j, made(entry.TopUp, 1, 0, 1+i%32))
	}
	for _, n := range []int{16383, 16384} {
		want, wantErr := plain(j, n, 27)
		uptoIs(t, "all", j, n, want, wantErr)
	}
	uptoIs(t, "one more", j, 16385, nil, api.ErrArg)
	want, wantErr := plain(j, 16384, 27)
	rowsAre(t, "all", j, want, wantErr)
	if len(want) != 32 || want[0].Account != (account{Topped: 5, Carried: 507}) || want[7].Account != (account{Topped: 6, Carried: 506}) {
		t.Errorf("%+v", want)
	}
}

// chance answers an entry by chance: more often than not one that a purse might make.
func chance(r *rand.Rand, nodes []int) entry.Entry {
	path := []int{nodes[r.Intn(len(nodes))]}
	if other := nodes[r.Intn(len(nodes))]; other != path[0] {
		path = append(path, other)
	}
	amount := 1 + r.Intn(20)
	switch r.Intn(20) {
	case 0, 1, 2, 3, 4, 5, 6:
		return made(entry.TopUp, 10*amount, 0, path...)
	case 7, 8, 9:
		return made(entry.Hold, amount, 0, path...)
	case 10, 11:
		return made(entry.Commit, 1+amount/4, 1+r.Intn(8), path...)
	case 12:
		return made(entry.Expire, amount, 0, path...)
	case 13, 14, 15:
		// Of any kind: that counts for top-ups alone.
		e := made(entry.Hold, amount, 0, path...)
		e.Kind = []int{2, 3, 4, 5, 6}[r.Intn(5)]
		return e
	case 16:
		return made(entry.Release, 1+amount/5, 0, path...)
	case 17:
		return made(entry.Refund, 1+amount/9, 1+r.Intn(8), path...)
	case 18:
		amount = most - r.Intn(2)
	}
	accounts := []entry.Account{cash, fundsOf(path[0]), heldOf(path[0]), usageOf(path[0], 1+r.Intn(8)), expiredOf(path[0])}
	i := r.Perm(len(accounts))
	return two(1+r.Intn(6), amount, accounts[i[0]], accounts[i[1]])
}

func TestP28_1_JournalsByChance(t *testing.T) {
	right, wrong := 0, 0
	for seed := range 160 {
		r := rand.New(rand.NewSource(int64(seed)))
		nodes := r.Perm(32)[:2+r.Intn(3)]
		j := journal.New()
		for i := range nodes {
			nodes[i]++
			post(t, j, made(entry.TopUp, 400, 0, nodes[i]))
		}
		for step := range 30 {
			if r.Intn(8) == 0 {
				j.Close()
			}
			j.Post(chance(r, nodes))
			what := fmt.Sprintf("script %d, step %d", seed, step)
			want, wantErr := plain(j, j.Len(), j.Period())
			rowsAre(t, what, j, want, wantErr)
			if wantErr == api.OK {
				right++
			} else {
				wrong++
			}
		}
		j.Close()
		before := told(j)
		for n := range j.Len() + 1 {
			want, wantErr := plain(j, n, lastPeriod(j, n))
			uptoIs(t, fmt.Sprint("script ", seed), j, n, want, wantErr)
		}
		if told(j) != before {
			t.Fatalf("script %d: the journal has changed", seed)
		}
		if t.Failed() {
			t.FailNow()
		}
	}
	if right < 1000 || wrong < 1000 {
		t.Errorf("%d were accounts, %d weren't", right, wrong)
	}
}

func TestP28_1_NothingIsChanged(t *testing.T) {
	for what, last := range map[string]entry.Entry{"accounts": made(entry.Hold, 4, 0, 1), "none": two(entry.Hold, 4, cash, heldOf(1))} {
		j := of(t, made(entry.TopUp, 9, 0, 1))
		j.Close()
		post(t, j, last)
		before := told(j)
		for range 2 {
			replay.Rows(j)
			for n := -1; n <= 3; n++ {
				replay.Upto(j, n)
			}
		}
		if told(j) != before {
			t.Errorf("%s: the journal has changed", what)
		}
	}
}

func TestP28_3_AnswersAreNew(t *testing.T) {
	j := of(t, made(entry.TopUp, 9, 0, 1), made(entry.TopUp, 8, 0, 2))
	want := []row{{1, account{Topped: 9}}, {2, account{Topped: 8}}}
	asks := []func() ([]row, api.Errno){
		func() ([]row, api.Errno) { return replay.Rows(j) },
		func() ([]row, api.Errno) { return replay.Upto(j, 2) },
	}
	for _, ask := range asks {
		one, _ := ask()
		two, _ := ask()
		_ = append(one, row{99, account{}})
		clear(one[:cap(one)])
		if !slices.Equal(two, want) {
			t.Errorf("an answer is %v now", two)
		}
		for _, again := range asks {
			if l, err := again(); !slices.Equal(l, want) || err != api.OK {
				t.Errorf("the next answer is %v, %d", l, err)
			}
		}
	}
}
