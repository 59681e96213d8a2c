package replay_test

import (
	"fmt"
	"math/rand"
	"slices"
	"testing"

	"purser/api"
	"purser/entry"
	"purser/funds"
	"purser/period"
	"purser/replay"
)

// kept answers the rows of what a purse keeps.
func kept(p *period.Purse) []row {
	var l []row
	for node := 1; node <= 32; node++ {
		if a := p.Get(node); a != (account{}) {
			l = append(l, row{node, a})
		}
	}
	return l
}

// rolls begins a purse's next period.
func rolls(p *period.Purse, carry ...int) api.Errno {
	_, err := p.Roll(carry)
	return err
}

// calls are some of each call.
var calls = []func(p *period.Purse) api.Errno{
	func(p *period.Purse) api.Errno { return p.TopUp(1, 9) },
	func(p *period.Purse) api.Errno { return p.TopUp(2, 5) },
	func(p *period.Purse) api.Errno { return p.Hold([]int{1, 2}, []int{-1, -1}, 4) },
	func(p *period.Purse) api.Errno { return p.Release([]int{1, 2}, 1) },
	func(p *period.Purse) api.Errno { return p.Commit([]int{2, 1}, 2, 3) },
	func(p *period.Purse) api.Errno { return p.Refund([]int{1, 2}, 1, 3) },
	func(p *period.Purse) api.Errno { return rolls(p) },
	func(p *period.Purse) api.Errno { return rolls(p, 1) },
}

// inOrder does so many calls, as the digits of a number say, the last ones first.
func inOrder(p *period.Purse, digits, n int) {
	for range n {
		calls[digits%len(calls)](p)
		digits /= len(calls)
	}
}

func TestP28_2_EveryCallInEveryOrder(t *testing.T) {
	for n, orders := 1, len(calls); n <= 5; n, orders = n+1, orders*len(calls) {
		for digits := range orders {
			p := period.New()
			p.TopUp(1, 6)
			p.TopUp(2, 7)
			inOrder(p, digits, n)
			if l, err := replay.Rows(p.Journal()); !slices.Equal(l, kept(p)) || err != api.OK {
				t.Fatalf("calls %o: %v, %d, not %v", digits, l, err, kept(p))
			}
		}
	}
}

// acts does a call by chance.
func acts(r *rand.Rand, p *period.Purse) api.Errno {
	path := r.Perm(5)[:1+r.Intn(3)]
	limits := slices.Repeat([]int{-1}, len(path))
	for i := range path {
		path[i] += 1 + 27*(path[i]/4)
	}
	if r.Intn(4) == 0 {
		limits[0] = r.Intn(200)
	}
	amount := 1 + r.Intn(40)
	if r.Intn(15) == 0 {
		amount = most >> r.Intn(3)
	}
	switch n := r.Intn(20); {
	case n < 6:
		return p.TopUp(path[0], amount)
	case n < 11:
		return p.Hold(path, limits, amount)
	case n < 13:
		return p.Release(path, amount)
	case n < 16:
		return p.Commit(path, amount, 1+r.Intn(8))
	case n < 19:
		return p.Refund(path, amount, 1+r.Intn(8))
	}
	return rolls(p, r.Perm(5)[:r.Intn(6)]...)
}

// Behind each call the rows are the purse's accounts; and they are so still when more stands behind them.
func TestP28_2_PursesByChance(t *testing.T) {
	for seed := range 80 {
		r := rand.New(rand.NewSource(int64(seed)))
		p := period.New()
		// By the count of entries: what was kept behind the call that posted the last of them.
		was := map[int][]row{}
		for step := range 250 {
			open := p.Journal().Period()
			acts(r, p)
			j := p.Journal()
			rowsAre(t, fmt.Sprintf("script %d, step %d", seed, step), j, kept(p), api.OK)
			if j.Period() == open {
				was[j.Len()] = kept(p)
			}
			if j.Len() > 0 && lastPeriod(j, j.Len()) != j.Period() {
				delete(was, j.Len())
			}
		}
		before := told(p.Journal())
		for n, want := range was {
			uptoIs(t, fmt.Sprint("script ", seed), p.Journal(), n, want, api.OK)
		}
		if told(p.Journal()) != before {
			t.Errorf("script %d: the journal has changed", seed)
		}
		if len(was) < 80 || p.Journal().Period() < 3 {
			t.Errorf("script %d: only %d counts, in period %d", seed, len(was), p.Journal().Period())
		}
		if t.Failed() {
			t.FailNow()
		}
	}
}

// A purse that was restored is one: of what it carried its entries tell.
func TestP28_2_ARestoredPurse(t *testing.T) {
	entries := []entry.Entry{made(entry.TopUp, 9, 0, 1), made(entry.TopUp, 4, 0, 1), made(entry.Hold, 3, 0, 1)}
	accounts := map[int]funds.Account{1: {Topped: 4, Carried: 9, Held: 3}}
	p, err := period.Restore(accounts, entries, []int{0, 2, 2}, 2)
	if err != api.OK {
		t.Fatal(err)
	}
	rowsAre(t, "restored", p.Journal(), kept(p), api.OK)
	p.Commit([]int{1}, 2, 7)
	rowsAre(t, "and used", p.Journal(), []row{{1, account{Topped: 4, Carried: 9, Held: 1, Used: 2}}}, api.OK)
	p.Roll([]int{1})
	rowsAre(t, "and rolled", p.Journal(), []row{{1, account{Carried: 11, Held: 1}}}, api.OK)
}
