package ledger_test

import (
	"fmt"
	"maps"
	"math/rand"
	"reflect"
	"slices"
	"testing"

	"purser/api"
	"purser/ledger"
	"purser/tariff"
	"purser/wire"
)

// writer makes up requests that fit what a model has, more often than not.
type writer struct {
	*rand.Rand
	m *model
}

// one answers a number from least to most.
func (w writer) one(least, most int) int { return least + w.Intn(most-least+1) }

// odds says yes once in so many times.
func (w writer) odds(n int) bool { return w.Intn(n) == 0 }

// projectId answers a node, a project more often than not.
func (w writer) projectId() int {
	if w.odds(15) {
		return w.one(-1, 14)
	}
	return []int{3, 4, 6, 9, 10}[w.Intn(5)]
}

// units answers some units.
func (w writer) units(least int) int {
	switch {
	case w.odds(40):
		return []int{-1, 0, maxUnits + 1}[w.Intn(3)]
	case w.odds(10):
		return w.one(least, 300)
	}
	return w.one(least, 25)
}

// groups answers some groups, unlike ones more often than not.
func (w writer) groups(least int) []int {
	l := w.Perm(4)[:w.one(least, 3)]
	for i := range l {
		l[i]++
	}
	if w.odds(25) {
		l = append(l, w.one(0, 6))
	}
	if w.odds(60) {
		l = append(l, 1, 2, 3)
	}
	return l
}

// plan answers a plan, that is right more often than not.
func (w writer) plan() tariff.Plan {
	p := tariff.Plan{Base: w.tariff()}
	if w.odds(2) {
		p.Day, p.From, p.To, p.Other = w.one(2, 9), w.one(0, 5), w.one(0, 5), w.tariff()
		p.Other.Group, p.Other.Block = p.Base.Group, p.Base.Block
	}
	return p
}

func (w writer) tariff() api.Tariff {
	t := api.Tariff{Group: w.one(1, 4), Mode: w.one(1, 2), Block: w.one(1, 6)}
	upto := 0
	for range w.one(0, 3) {
		upto += w.one(1, 20)
		t.Tiers = append(t.Tiers, api.Tier{Upto: upto, Price: w.one(0, 4)})
	}
	t.Tiers = append(t.Tiers, api.Tier{Price: w.one(0, 4)})
	if w.odds(20) {
		t.Block = 0
	}
	return t
}

// begun answers a request for a new session.
func (w writer) begun() request {
	r := request{Kind: wire.Initial, Session: w.m.last + w.one(1, 3), Node: w.projectId(), Number: 9}
	if w.odds(15) {
		r.Session = w.one(-1, w.m.last+1)
	}
	if w.odds(60) {
		r.Session = 1<<62 + 1
	}
	for _, group := range w.groups(1) {
		r.Items = append(r.Items, item{Group: group, Used: w.units(0), Want: w.units(1)})
	}
	if w.odds(40) {
		r.Items = nil
	}
	return r
}

// reported answers a request of an open session.
func (w writer) reported(kind int) request {
	ids := slices.Sorted(maps.Keys(w.m.sessions))
	if len(ids) == 0 || w.odds(25) {
		return request{Kind: kind, Session: w.one(0, w.m.last+1), Number: 1}
	}
	s := w.m.sessions[ids[w.Intn(len(ids))]]
	r := request{Kind: kind, Session: s.Id, Number: s.Number + 1}
	if w.odds(15) {
		r.Number += w.one(-2, 2)
	}
	for _, g := range s.Grants {
		if w.odds(5) {
			continue
		}
		x := item{Group: g.Group, Used: w.one(0, g.Units), Want: w.units(0)}
		if w.odds(25) {
			x.Used = g.Units + 1
		}
		if w.odds(3) {
			x.Used = g.Units
		}
		r.Items = append(r.Items, x)
	}
	for _, group := range w.groups(0) {
		if !slices.ContainsFunc(r.Items, func(x item) bool { return x.Group == group }) || w.odds(30) {
			r.Items = append(r.Items, item{Group: group, Want: w.units(0)})
		}
	}
	if len(r.Items) > 4 && !w.odds(20) {
		r.Items = r.Items[:4]
	}
	return r
}

// charged answers a request of an event, or of a refund.
func (w writer) charged() request {
	if w.odds(3) && len(w.m.past) > 0 {
		r := request{Kind: wire.Refund, Number: w.one(0, 99), Of: w.m.past[w.Intn(len(w.m.past))].Number}
		if w.odds(12) {
			r.Of = w.one(-1, 50)
		}
		return r
	}
	return request{Kind: wire.Event, Number: w.one(0, 50), Node: w.projectId(), Group: w.groups(1)[0], Units: w.units(1)}
}

// ordered answers a request that changes nodes.
func (w writer) ordered() request {
	switch w.Intn(16) {
	case 0, 1:
		return request{Kind: wire.Create, Node: w.one(0, 34), Parent: w.one(-1, 12), Sort: w.one(0, 4), Limit: w.one(-2, 200)}
	case 2, 3, 4:
		return request{Kind: wire.Move, Node: w.one(0, 12), Parent: w.one(0, 9)}
	case 5:
		return request{Kind: wire.Shut, Node: w.one(0, 12)}
	case 6:
		return request{Kind: wire.Limit, Node: w.one(0, 12), Limit: []int{-2, -1, -1, -1, 0, 50, 300, maxAmount, maxAmount + 1}[w.Intn(9)]}
	case 7:
		return request{Kind: wire.TopUp, Node: w.one(0, 12), Amount: []int{-1, 0, maxAmount, maxAmount + 1}[w.Intn(4)]}
	}
	return request{Kind: wire.TopUp, Node: w.one(1, 10), Amount: w.one(1, 300)}
}

// next answers a request of any kind.
func (w writer) next() request {
	switch n := w.Intn(100); {
	case n < 20:
		return w.begun()
	case n < 45:
		return w.reported(wire.Update)
	case n < 55:
		return w.reported(wire.Terminate)
	case n < 70:
		return w.charged()
	case n < 82:
		return w.ordered()
	case n < 87:
		return request{Kind: wire.Price, Plan: w.plan()}
	case n < 89:
		return request{Kind: wire.Roll, Carry: w.Perm(12)[:w.one(0, 10)]}
	case n < 93:
		return request{Kind: wire.Balance, Node: w.one(-1, 33)}
	case n < 98:
		return request{Kind: wire.Bill, Node: w.one(0, 12), Period: w.one(-1, w.m.open+1)}
	}
	return request{Kind: []int{0, -1, 15, 99}[w.Intn(4)], Node: 1}
}

// laid are the requests that a script begins with.
func laid() []request {
	l := []request{
		{Kind: wire.Create, Node: 1, Sort: api.Org, Limit: -1},
		{Kind: wire.Create, Node: 2, Parent: 1, Sort: api.Team, Limit: 900},
		{Kind: wire.Create, Node: 3, Parent: 2, Sort: api.Project, Limit: -1},
		{Kind: wire.Create, Node: 4, Parent: 2, Sort: api.Project, Limit: 400},
		{Kind: wire.Create, Node: 5, Parent: 1, Sort: api.Team, Limit: -1},
		{Kind: wire.Create, Node: 6, Parent: 5, Sort: api.Project, Limit: -1},
		{Kind: wire.Create, Node: 7, Sort: api.Org, Limit: 500},
		{Kind: wire.Create, Node: 8, Parent: 7, Sort: api.Team, Limit: -1},
		{Kind: wire.Create, Node: 9, Parent: 8, Sort: api.Project, Limit: -1},
		{Kind: wire.Create, Node: 10, Parent: 8, Sort: api.Project, Limit: -1},
	}
	for n := 1; n <= 10; n++ {
		l = append(l, request{Kind: wire.TopUp, Node: n, Amount: 500 + 50*n})
	}
	for group := 1; group <= 4; group++ {
		l = append(l, request{Kind: wire.Price, Plan: flat(group, group-1)})
	}
	return l
}

// copied answers a request that shares nothing with this one.
func copied(r request) request {
	r.Items, r.Carry = slices.Clone(r.Items), slices.Clone(r.Carry)
	r.Plan.Base, r.Plan.Other = tariff.Copy(r.Plan.Base), tariff.Copy(r.Plan.Other)
	return r
}

// plays lets a script run on a ledger and on the model, and counts what was answered.
func plays(t *testing.T, seed int64, steps int, seen map[string]int) {
	t.Helper()
	random := rand.New(rand.NewSource(seed))
	c := ledger.Config{Validity: 1 + random.Intn(6), Places: 1 + random.Intn(5), Day: 4 + random.Intn(21)}
	l, m := made(t, c), empty(c)
	w := writer{random, m}
	before := laid()
	for i := range steps {
		what := fmt.Sprintf("script %d, step %d", seed, i)
		first := len(m.posts)
		if i >= len(before) && w.odds(6) {
			what += ": a tick"
			over, err := l.Tick()
			if want := m.tick(); !slices.Equal(over, want) || err != api.OK {
				t.Fatalf("%s: %v, %d, not %v", what, over, err, want)
			}
			seen["over"] += len(over)
		} else {
			r := w.next()
			if i < len(before) {
				r = before[i]
			}
			what += fmt.Sprintf(": %+v", r)
			kept, a, want := copied(r), l.Do(r), m.do(copied(r))
			if !sameAnswer(a, want) {
				t.Fatalf("%s: %+v, not %+v", what, a, want)
			}
			if !reflect.DeepEqual(r, kept) {
				t.Fatalf("%s: it was changed", what)
			}
			seen[fmt.Sprint(r.Kind, " ", a.Err)]++
		}
		agrees(t, what, l, m, first)
		sound(t, what, l)
		if w.odds(30) {
			l = again(t, l)
			agrees(t, what+", made again", l, m, len(m.posts))
		}
	}
	agrees(t, fmt.Sprint("script ", seed), l, m, 0)
}

// again answers a ledger of a ledger's parts.
func again(t *testing.T, l *ledger.Ledger) *ledger.Ledger {
	t.Helper()
	made, err := ledger.Make(l.Parts())
	if err != api.OK {
		t.Fatalf("Make: %d", err)
	}
	return made
}

// Each of these kinds has to be answered so now and then, else the scripts tell little.
var answered = []string{
	"1 0", "1 1", "1 7", "1 9", "1 10", "1 13", "1 16", "1 21", "2 0", "2 1", "2 7", "2 15", "2 19", "3 0", "3 1", "3 7", "3 15", "3 19",
	"4 0", "4 1", "4 7", "4 9", "4 16", "4 18", "4 21", "5 0", "5 8", "5 13", "6 0", "6 1", "6 7", "6 8", "6 21",
	"7 0", "7 7", "7 8", "7 16", "7 17", "7 21", "8 0", "8 7", "8 16", "8 17", "9 0", "9 1", "9 7", "9 16",
	"10 0", "10 1", "10 6", "10 7", "10 16", "11 0", "11 1", "11 17", "12 0", "13 0", "13 7", "14 0", "14 1", "14 7", "0 2", "over",
}

func TestP23_1_ScriptsAsTheModelSays(t *testing.T) {
	seen := map[string]int{}
	for seed := range int64(120) {
		plays(t, seed, 400, seen)
	}
	for _, what := range answered {
		if seen[what] < 5 {
			t.Errorf("%s: only %d times", what, seen[what])
		}
	}
}
