package audit_test

import (
	"fmt"
	"math"
	"math/rand"
	"slices"
	"testing"

	"purser/api"
	"purser/audit"
	"purser/ledger"
	"purser/tariff"
	"purser/wire"
)

// writer makes up requests that fit what a ledger tells, more often than not.
type writer struct {
	*rand.Rand
	l *ledger.Ledger
	// most is about how many units are wanted, and what is paid for at once.
	most int
}

// one answers a number from least to most.
func (w writer) one(least, most int) int { return least + w.Intn(most-least+1) }

// odds says yes once in so many times.
func (w writer) odds(n int) bool { return w.Intn(n) == 0 }

// project answers a node, a project more often than not.
func (w writer) project() int {
	if w.odds(15) {
		return w.one(0, 12)
	}
	return []int{3, 4, 7, 9, 10}[w.Intn(5)]
}

// groups answers some unlike groups.
func (w writer) groups() []int {
	l := w.Perm(4)[:w.one(1, 3)]
	for i := range l {
		l[i]++
	}
	return l
}

// plan answers a plan, with another tariff for some of the day as often as not.
func (w writer) plan() tariff.Plan {
	group, block := w.one(1, 4), w.one(1, 6)
	some := func() api.Tariff {
		x := api.Tariff{Group: group, Mode: w.one(1, 2), Block: block}
		for i := range w.one(0, 3) {
			x.Tiers = append(x.Tiers, api.Tier{Upto: 10 + 10*i, Price: w.one(0, 4)})
		}
		x.Tiers = append(x.Tiers, api.Tier{Price: w.one(0, 4)})
		if w.odds(6) {
			x.Tiers[0].Price = api.MaxPrice - w.Intn(2)
		}
		return x
	}
	p := tariff.Plan{Base: some()}
	if w.odds(2) {
		p.Day, p.From, p.To, p.Other = w.one(6, 9), w.one(0, 2), w.one(3, 5), some()
	}
	return p
}

// begun answers a request for a new session.
func (w writer) begun() request {
	r := request{Kind: wire.Initial, Session: w.l.Table().Last() + w.one(0, 2), Node: w.project()}
	for _, group := range w.groups() {
		r.Items = append(r.Items, item{Group: group, Want: w.one(1, w.most)})
	}
	return r
}

// reported answers a request of an open session.
func (w writer) reported(kind int) request {
	ids := w.l.Table().Ids()
	if len(ids) == 0 {
		return w.begun()
	}
	s, _ := w.l.Table().Get(ids[w.Intn(len(ids))])
	r := request{Kind: kind, Session: s.Id, Number: s.Number + 1}
	if w.odds(20) {
		r.Number += w.one(-1, 1)
	}
	for _, g := range s.Grants {
		if !w.odds(6) {
			r.Items = append(r.Items, item{Group: g.Group, Used: w.one(0, g.Units), Want: w.Intn(2) * w.one(1, w.most)})
		}
	}
	for _, group := range w.groups() {
		if len(r.Items) < 4 && !slices.ContainsFunc(r.Items, func(x item) bool { return x.Group == group }) {
			r.Items = append(r.Items, item{Group: group, Want: w.one(0, w.most)})
		}
	}
	return r
}

// charged answers a request of an event, or of a refund.
func (w writer) charged() request {
	if past := w.l.Past(); w.odds(2) && len(past) > 0 {
		return request{Kind: wire.Refund, Of: past[w.Intn(len(past))].Number}
	}
	return request{Kind: wire.Event, Number: w.one(0, 40), Node: w.project(), Group: w.groups()[0], Units: w.one(1, w.most)}
}

// ordered answers a request that changes nodes.
func (w writer) ordered() request {
	switch w.Intn(20) {
	case 0, 1:
		return request{Kind: wire.Create, Node: w.one(11, 32), Parent: w.one(0, 10), Sort: w.one(1, 3), Limit: w.one(-1, 200)}
	case 2, 3, 4, 5:
		return request{Kind: wire.Move, Node: w.one(2, 12), Parent: w.one(1, 8)}
	case 6:
		return request{Kind: wire.Shut, Node: w.one(1, 32)}
	case 7, 8:
		return request{Kind: wire.Limit, Node: w.one(1, 12), Limit: []int{-1, -1, -1, 0, 300, api.MaxAmount}[w.Intn(6)]}
	}
	return request{Kind: wire.TopUp, Node: w.one(1, 10), Amount: 20 * w.one(1, w.most)}
}

// next answers a request of any kind.
func (w writer) next() request {
	switch n := w.Intn(100); {
	case n < 20:
		return w.begun()
	case n < 43:
		return w.reported(wire.Update)
	case n < 53:
		return w.reported(wire.Terminate)
	case n < 70:
		return w.charged()
	case n < 86:
		return w.ordered()
	case n < 92:
		return request{Kind: wire.Price, Plan: w.plan()}
	case n < 94:
		return request{Kind: wire.Roll, Carry: w.Perm(11)[:w.one(0, 11)]}
	case n < 96:
		return request{Kind: wire.Balance, Node: w.one(0, 33)}
	case n < 98:
		return request{Kind: wire.Bill, Node: w.one(0, 12), Period: w.one(-1, 4)}
	}
	return request{Kind: w.one(15, 17)}
}

// grown answers a ledger as laid answers it, with a team more, two projects in it, and plans of four groups.
func grown(t *testing.T, c ledger.Config) *ledger.Ledger {
	t.Helper()
	p := laid(t).Parts()
	p.Config = c
	l, err := ledger.Make(p)
	if err != api.OK {
		t.Fatalf("Make: %d", err)
	}
	does(t, l, request{Kind: wire.Create, Node: 8, Parent: 5, Sort: api.Team, Limit: -1})
	for _, id := range []int{9, 10} {
		does(t, l, request{Kind: wire.Create, Node: id, Parent: 8, Sort: api.Project, Limit: -1})
	}
	for group := 3; group <= 4; group++ {
		does(t, l, request{Kind: wire.Price, Plan: flat(group, group-3)})
	}
	for id := 1; id <= 10; id++ {
		does(t, l, request{Kind: wire.TopUp, Node: id, Amount: 3000})
	}
	return l
}

// plays lets a script run on a ledger, and holds that nothing is found at any step; it counts what was done.
func plays(t *testing.T, seed int64, steps, most int, done map[int]int) {
	t.Helper()
	r := rand.New(rand.NewSource(seed))
	l := grown(t, ledger.Config{Validity: 1 + r.Intn(6), Places: 2 + r.Intn(14), Day: 4 + r.Intn(21)})
	for i := range steps {
		what := fmt.Sprintf("script %d, step %d", seed, i)
		w := writer{r, l, most}
		if w.odds(6) {
			over, err := l.Tick()
			if err != api.OK {
				t.Fatalf("%s: a tick: %d", what, err)
			}
			done[0] += len(over)
		} else {
			x := w.next()
			what += fmt.Sprintf(": %+v", x)
			if l.Do(x).Err == api.OK {
				done[x.Kind]++
			}
		}
		if got := audit.Look(l); len(got) != 0 {
			t.Fatalf("%s: %v", what, got)
		}
		if w.odds(40) {
			l = at(t, l, l.Now())
		}
	}
	finds(t, fmt.Sprint("script ", seed), l)
}

func TestP27_2_WhateverIsAsked(t *testing.T) {
	for what, most := range map[string]int{"small": 25, "great": api.MaxUnits} {
		done := map[int]int{}
		for seed := range int64(40) {
			plays(t, seed, 400, most, done)
		}
		for kind := 0; kind <= wire.Bill; kind++ {
			if done[kind] < 15 {
				t.Errorf("%s: kind %d was done %d times", what, kind, done[kind])
			}
		}
	}
}

// Nothing is found at any step of a story in which all kinds of requests are done.
func TestP27_2_AStory(t *testing.T) {
	l := grown(t, ledger.Config{Validity: 3, Places: 5, Day: 24})
	free := []item{{Group: 3, Want: 10}}
	for i, r := range []request{
		{Kind: wire.Update, Session: 1, Number: 1, Items: []item{{Group: 1, Used: 9, Want: 4}, {Group: 2, Want: 3}}},
		{Kind: wire.Terminate, Session: 2, Number: 1, Items: []item{{Group: 2, Used: 4}}},
		{Kind: wire.Initial, Session: 3, Node: 9, Items: free},
		{Kind: wire.Initial, Session: 4, Node: 10, Items: free},
		// A session may be open while its project is moved, or closed, if nothing is held.
		{Kind: wire.Move, Node: 9, Parent: 6},
		{Kind: wire.Shut, Node: 10},
		{},
		{Kind: wire.Update, Session: 3, Number: 1, Items: []item{{Group: 3, Used: 7, Want: 5}, {Group: 1, Want: 5}}},
		{Kind: wire.Update, Session: 4, Number: 1, Items: []item{{Group: 3, Used: 7, Want: 5}, {Group: 1, Want: 5}}},
		{Kind: wire.Event, Number: 2, Node: 9, Group: 1, Units: 20},
		{Kind: wire.Event, Number: 3, Node: 9, Group: 2, Units: 20},
		{Kind: wire.Refund, Of: 2},
		{Kind: wire.Limit, Node: 5, Limit: 10},
		{Kind: wire.Roll, Carry: []int{1, 2, 3, 5, 6, 7, 8, 9}},
		{Kind: wire.Terminate, Session: 4, Number: 2},
		{},
		{Kind: wire.Update, Session: 1, Number: 2, Items: []item{{Group: 1, Used: 4, Want: 4}, {Group: 2, Used: 1}}},
		// The Deadline of session 3 passes by.
		{}, {}, {},
		{Kind: wire.Move, Node: 9, Parent: 8},
		{Kind: wire.Shut, Node: 9},
		{Kind: wire.Shut, Node: 8},
		{Kind: wire.Roll},
		{Kind: wire.Bill, Node: 5, Period: 0},
		{Kind: wire.TopUp, Node: 3, Amount: 40},
		{Kind: wire.Balance, Node: 3},
		{}, {},
	} {
		what := fmt.Sprintf("step %d: %+v", i, r)
		if r.Kind == 0 {
			l.Tick()
		} else {
			does(t, l, r)
		}
		finds(t, what, l)
	}
	if len(l.Table().Ids()) != 0 || l.Purse().Journal().Period() != 2 {
		t.Errorf("%v are open, in period %d", l.Table().Ids(), l.Purse().Journal().Period())
	}
}

// Of whatever numbers there is nothing to find.
func TestP27_2_AnyNumbers(t *testing.T) {
	numbers := []int{math.MinInt, -1 << 53, -1, 0, 0, 1, 1, 2, 3, 4, 5, 7, 8, 9, 20, 33, api.MaxUnits, api.MaxUnits + 1, api.MaxAmount, 1 << 62, math.MaxInt}
	for seed := range int64(10) {
		r := rand.New(rand.NewSource(seed))
		pick := func() int { return numbers[r.Intn(len(numbers))] }
		l := laid(t)
		for i := range 1500 {
			x := request{Kind: 1 + r.Intn(14), Session: pick(), Number: pick(), Node: pick(), Group: pick(), Units: pick()}
			x.Of, x.Parent, x.Sort, x.Limit, x.Amount, x.Period = pick(), pick(), pick(), pick(), pick(), pick()
			for range r.Intn(6) {
				x.Items = append(x.Items, item{Group: pick(), Used: pick(), Want: pick()})
				x.Carry = append(x.Carry, pick(), pick())
			}
			x.Plan = flat(pick(), pick())
			if x.Kind == wire.Roll && r.Intn(20) > 0 {
				continue
			}
			if a := l.Do(x); a.Err == api.OK {
				if got := audit.Look(l); len(got) != 0 {
					t.Fatalf("script %d, step %d: %+v: %v", seed, i, x, got)
				}
			}
		}
	}
}

// A ledger that is nearly full, and one whose last period is open, is in order, too.
func TestP27_2_NearlyFull(t *testing.T) {
	r := rand.New(rand.NewSource(272))
	l := grown(t, ledger.Config{Validity: 9, Places: 16, Day: 24})
	done := map[int]int{}
	for i := 0; i < 60000 && l.Purse().Journal().Len() <= 15872; i++ {
		w := writer{r, l, 6}
		x := w.next()
		if x.Kind == wire.Shut || x.Kind == wire.Limit || x.Kind == wire.Roll && i%2000 > 40 {
			continue
		}
		l.Do(x)
		if i%9 == 0 {
			l.Tick()
		}
		if i%100 == 0 {
			finds(t, fmt.Sprint("step ", i), l)
		}
	}
	if l.Purse().Journal().Len() <= 15872 || len(l.Table().Ids()) == 0 {
		t.Fatalf("%d entries, %d sessions", l.Purse().Journal().Len(), len(l.Table().Ids()))
	}
	for i := range 400 {
		x := writer{r, l, 6}.next()
		if l.Do(x).Err == api.OK {
			done[x.Kind]++
		}
		if i%20 == 0 {
			l.Tick()
		}
		if got := audit.Look(l); len(got) != 0 {
			t.Fatalf("nearly full, step %d: %+v: %v", i, x, got)
		}
	}
	if done[wire.Initial]+done[wire.Event]+done[wire.TopUp]+done[wire.Roll] != 0 || done[wire.Update] == 0 {
		t.Errorf("%v", done)
	}
}
