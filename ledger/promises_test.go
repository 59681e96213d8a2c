package ledger_test

import (
	"fmt"
	"math"
	"math/rand"
	"testing"

	"purser/api"
	"purser/entry"
	"purser/ledger"
	"purser/tariff"
	"purser/wire"
)

// wild answers a request whose numbers are great ones, as often as not.
func wild(random *rand.Rand, l *ledger.Ledger) request {
	amount := func(most int) int { return most - random.Intn(3) }
	t := l.Table()
	r := request{Kind: 1 + random.Intn(5), Session: t.Last() + 1, Number: random.Intn(20), Node: 3 + random.Intn(6), Of: random.Intn(20)}
	if ids := t.Ids(); r.Kind != wire.Initial && len(ids) > 0 {
		s, _ := t.Get(ids[random.Intn(len(ids))])
		if r.Kind != wire.Event && r.Kind != wire.Refund {
			r.Session, r.Number = s.Id, s.Number+1
		}
		for _, g := range s.Grants {
			used := max(0, amount(g.Units)) >> random.Intn(9)
			r.Items = append(r.Items, item{Group: g.Group, Used: used, Want: random.Intn(2) * amount(maxUnits)})
		}
	}
	for _, group := range random.Perm(4)[:1+random.Intn(3)] {
		if len(r.Items) < 3 {
			r.Items = append(r.Items, item{Group: group + 1, Want: amount(maxUnits)})
		}
	}
	r.Group, r.Units = 1+random.Intn(4), amount(maxUnits)>>random.Intn(20)
	switch random.Intn(12) {
	case 0, 1:
		return request{Kind: wire.TopUp, Node: 1 + random.Intn(9), Amount: amount(maxAmount) >> random.Intn(12)}
	case 2:
		return request{Kind: wire.Move, Node: 1 + random.Intn(9), Parent: 1 + random.Intn(4)}
	case 3:
		return request{Kind: wire.Limit, Node: 1 + random.Intn(9), Limit: amount(maxAmount) >> random.Intn(12)}
	case 4:
		tiers := []api.Tier{{Upto: 1 << random.Intn(30), Price: random.Intn(9)}, {Price: amount(api.MaxPrice)}}
		base := api.Tariff{Group: r.Group, Mode: 1 + random.Intn(2), Block: 1 << random.Intn(9), Tiers: tiers}
		return request{Kind: wire.Price, Plan: tariff.Plan{Base: base}}
	case 5:
		if random.Intn(6) == 0 {
			return request{Kind: wire.Roll, Carry: random.Perm(10)}
		}
	}
	return r
}

// grown answers a ledger with two teams, and three projects in each.
func grown(t *testing.T, c ledger.Config) *ledger.Ledger {
	t.Helper()
	l := made(t, c)
	does(t, l, request{Kind: wire.Create, Node: 1, Sort: api.Org, Limit: -1})
	for _, team := range []int{2, 9} {
		does(t, l, request{Kind: wire.Create, Node: team, Parent: 1, Sort: api.Team, Limit: -1})
	}
	for node := 3; node <= 8; node++ {
		does(t, l, request{Kind: wire.Create, Node: node, Parent: []int{2, 9}[node%2], Sort: api.Project, Limit: -1})
	}
	for group := 1; group <= 4; group++ {
		does(t, l, request{Kind: wire.Price, Plan: flat(group, []int{0, 1, 1000, api.MaxPrice}[group-1])})
	}
	return l
}

// Whatever is asked: held is what the sessions hold, nothing is below 0, the journal says so, and no Deadline is past;
// what is refused changes nothing.
func TestP23_2_P23_3_P23_4_WhateverIsAsked(t *testing.T) {
	done, over := map[int]int{}, 0
	for seed := range int64(60) {
		random := rand.New(rand.NewSource(seed))
		l := grown(t, ledger.Config{Validity: 1 + random.Intn(9), Places: 1 + random.Intn(16), Day: 4 + random.Intn(99)})
		for i := range 300 {
			what := fmt.Sprintf("script %d, step %d", seed, i)
			if random.Intn(5) == 0 {
				over += len(ticks(t, l, 1))
			} else {
				r := wild(random, l)
				what = fmt.Sprintf("%s: %+v", what, r)
				before := dump(l)
				if a := l.Do(r); a.Err == api.OK {
					done[r.Kind]++
				} else if dump(l) != before {
					t.Fatalf("%s: %+v has changed something", what, a)
				}
			}
			sound(t, what, l)
			if t.Failed() {
				t.FailNow()
			}
		}
	}
	for _, kind := range []int{1, 2, 3, 4, 5, 7, 9, 10, 11, 12} {
		if done[kind] < 40 {
			t.Errorf("kind %d was done %d times", kind, done[kind])
		}
	}
	if over < 40 {
		t.Errorf("only %d sessions were over by their time", over)
	}
}

func TestP23_2_HeldAtEachNode(t *testing.T) {
	l := grown(t, ledger.Config{Validity: 9, Places: 16, Day: 24})
	for node := 1; node <= 9; node++ {
		does(t, l, request{Kind: wire.TopUp, Node: node, Amount: 10000})
	}
	held := func(want ...int) {
		t.Helper()
		for i, n := range want {
			if got := l.Purse().Get(i + 1).Held; got != n {
				t.Errorf("at node %d %d are held, not %d", i+1, got, n)
			}
		}
		sound(t, "holds", l)
	}
	for i, node := range []int{3, 4, 6, 3} {
		does(t, l, request{Kind: wire.Initial, Session: i + 1, Node: node, Items: []item{{Group: 2, Want: 100 << i}, {Group: 3, Want: 1}}})
	}
	// 3 is in team 9; 4 and 6 are in team 2.
	held(100+200+400+800+4000, 200+400+2000, 100+800+2000, 200+1000, 0, 400+1000, 0, 0, 100+800+2000)
	does(t, l, request{Kind: wire.Update, Session: 1, Number: 1, Items: []item{{Group: 3, Used: 1, Want: 2}}})
	held(200+400+800+5000, 200+400+2000, 800+3000, 200+1000, 0, 400+1000, 0, 0, 800+3000)
	does(t, l, request{Kind: wire.Terminate, Session: 3, Number: 1, Items: []item{{Group: 2, Used: 1}}})
	held(200+800+4000, 200+1000, 800+3000, 200+1000, 0, 0, 0, 0, 800+3000)
	does(t, l, request{Kind: wire.Roll})
	held(200+800+4000, 200+1000, 800+3000, 200+1000, 0, 0, 0, 0, 800+3000)
	ticks(t, l, 10)
	held(0, 0, 0, 0, 0, 0, 0, 0, 0)
}

func TestP23_3_TheJournalSaysSo(t *testing.T) {
	l := begin(t, some)
	opens(t, l, 1, 1, 10)
	does(t, l, request{Kind: wire.Event, Number: 1, Node: 3, Group: 2, Units: 7})
	does(t, l, request{Kind: wire.Update, Session: 1, Number: 1, Items: []item{{Group: 1, Used: 9, Want: 4}}})
	says := func(account entry.Account, want int) {
		t.Helper()
		if got := l.Purse().Journal().Balance(account); got != want {
			t.Errorf("%+v: %d, not %d", account, got, want)
		}
	}
	for node := 1; node <= 3; node++ {
		says(entry.Account{Kind: entry.Funds, Node: node}, 12+14+27-1000)
		says(entry.Account{Kind: entry.Held, Node: node}, -12)
		says(entry.Account{Kind: entry.Usage, Node: node, Group: 1}, -27)
		says(entry.Account{Kind: entry.Usage, Node: node, Group: 2}, -14)
	}
	does(t, l, request{Kind: wire.Refund, Of: 1})
	does(t, l, request{Kind: wire.Roll, Carry: []int{1, 2}})
	says(entry.Account{Kind: entry.Usage, Node: 3, Group: 2}, 0)
	says(entry.Account{Kind: entry.Expired, Node: 3}, 12+27-1000)
	says(entry.Account{Kind: entry.Funds, Node: 3}, 0)
	says(entry.Account{Kind: entry.Cash}, 4000)
	sound(t, "behind a Roll", l)
}

func TestP23_4_NoDeadlineIsPast(t *testing.T) {
	l := begin(t, ledger.Config{Validity: 3, Places: 16, Day: 24})
	for now := range 40 {
		if now%2 == 0 {
			opens(t, l, now+1, 1, 2)
		}
		for _, id := range l.Table().Ids() {
			// Every third session asks once more, when its Deadline is there.
			if s, _ := l.Table().Get(id); id%3 == 0 && s.Number < 2 && s.Deadline == now {
				does(t, l, request{Kind: wire.Update, Session: id, Number: s.Number + 1, Items: []item{{Group: 1, Want: 1}}})
			}
		}
		for _, id := range ticks(t, l, 1) {
			// Its last Deadline was just now.
			last := id - 1 + 3
			if id%3 == 0 {
				last += 6
			}
			if last != now {
				t.Errorf("at %d %d is over", now+1, id)
			}
		}
		sound(t, fmt.Sprint("at ", now), l)
	}
	if n := len(l.Table().Ids()); n == 0 || n > 6 {
		t.Errorf("%d sessions are open", n)
	}
}

// Of whatever numbers nothing panics, and what is promised holds.
func TestP23_1_AnyNumbers(t *testing.T) {
	numbers := []int{math.MinInt, -1 << 53, -2, -1, 0, 0, 1, 1, 2, 3, 4, 5, 7, 8, 9, 20, 21, 33, maxUnits, maxUnits + 1, maxAmount, maxAmount + 1, 1 << 62, 1<<62 + 1, math.MaxInt}
	for seed := range int64(20) {
		random := rand.New(rand.NewSource(seed))
		any := func() int { return numbers[random.Intn(len(numbers))] }
		l := ready(t)
		for i := range 2000 {
			r := request{Kind: random.Intn(16), Session: any(), Number: any(), Node: any(), Group: any(), Units: any()}
			r.Of, r.Parent, r.Sort, r.Limit, r.Amount, r.Period = any(), any(), any(), any(), any(), any()
			for range random.Intn(6) {
				r.Items = append(r.Items, item{Group: any(), Used: any(), Want: any()})
				r.Carry = append(r.Carry, any(), any())
			}
			r.Plan = flat(any(), any())
			if random.Intn(2) == 0 {
				r.Plan.Day, r.Plan.From, r.Plan.To, r.Plan.Other = any(), any(), any(), flat(r.Plan.Base.Group, any()).Base
			}
			if r.Kind == wire.Roll && random.Intn(20) > 0 {
				continue
			}
			what := fmt.Sprintf("script %d, step %d: %+v", seed, i, r)
			l.Plan(any())
			l.Rhythm(any())
			a := l.Do(r)
			if a.Kind != r.Kind%15 || a.Err != api.OK && !sameAnswer(a, answer{Kind: a.Kind, Err: a.Err}) {
				t.Fatalf("%s: %+v", what, a)
			}
			if a.Err == api.OK {
				sound(t, what, l)
			}
			if t.Failed() {
				t.FailNow()
			}
		}
	}
}
