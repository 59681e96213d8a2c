package audit_test

import (
	"fmt"
	"math/big"
	"slices"
	"strings"
	"testing"

	"purser/api"
	"purser/audit"
	"purser/credit"
	"purser/entry"
	"purser/grant"
	"purser/ledger"
	"purser/tariff"
	"purser/wire"
)

type (
	finding = audit.Finding
	request = wire.Request
	item    = wire.Item
	line    = api.Line
)

var cash = entry.Account{Kind: entry.Cash}

func fundsOf(node int) entry.Account { return entry.Account{Kind: entry.Funds, Node: node} }
func heldOf(node int) entry.Account  { return entry.Account{Kind: entry.Held, Node: node} }
func expiredOf(node int) entry.Account {
	return entry.Account{Kind: entry.Expired, Node: node}
}
func usageOf(node, group int) entry.Account {
	return entry.Account{Kind: entry.Usage, Node: node, Group: group}
}

// flat answers a plan of one tier.
func flat(group, price int) tariff.Plan {
	return tariff.Plan{Base: api.Tariff{Group: group, Mode: api.Graduated, Block: 1, Tiers: []api.Tier{{Price: price}}}}
}

// made answers a new ledger.
func made(t *testing.T, c ledger.Config) *ledger.Ledger {
	t.Helper()
	l, err := ledger.New(c)
	if err != api.OK {
		t.Fatalf("New(%+v): %d", c, err)
	}
	return l
}

// does holds that requests are answered without an error.
func does(t *testing.T, l *ledger.Ledger, all ...request) {
	t.Helper()
	for _, r := range all {
		if a := l.Do(r); a.Err != api.OK {
			t.Fatalf("%+v: %+v", r, a)
		}
	}
}

// laid answers a ledger with two organizations: nodes 1 to 4 and 5 to 7. Session 1 of project 3 has 30 held, session 2 of
// project 7 has 10 held, both till 5; project 4 used 14.
func laid(t *testing.T) *ledger.Ledger {
	t.Helper()
	l := made(t, ledger.Config{Validity: 5, Places: 8, Day: 24})
	for id, n := range []struct{ parent, kind int }{{}, {0, 1}, {1, 2}, {2, 3}, {2, 3}, {0, 1}, {5, 2}, {6, 3}} {
		if id > 0 {
			does(t, l, request{Kind: wire.Create, Node: id, Parent: n.parent, Sort: n.kind, Limit: -1}, request{Kind: wire.TopUp, Node: id, Amount: 1000})
		}
	}
	does(t, l,
		request{Kind: wire.Price, Plan: flat(1, 3)}, request{Kind: wire.Price, Plan: flat(2, 2)},
		request{Kind: wire.Initial, Session: 1, Node: 3, Items: []item{{Group: 1, Want: 10}}},
		request{Kind: wire.Initial, Session: 2, Node: 7, Items: []item{{Group: 2, Want: 5}}},
		request{Kind: wire.Event, Number: 1, Node: 4, Group: 2, Units: 7},
	)
	return l
}

// session answers a session that has so much held.
func session(id, node, deadline, amount int) credit.Session {
	return credit.Session{Id: id, Node: node, Deadline: deadline, Grants: []grant.Grant{{Group: 1, Units: 10, Amount: amount}}}
}

// moves posts an entry that credits one account and debits the other one, in the journal alone.
func moves(l *ledger.Ledger, amount int, credit, debit entry.Account) {
	legs := []entry.Leg{{Account: credit, Amount: -amount}, {Account: debit, Amount: amount}}
	slices.SortFunc(legs, func(a, b entry.Leg) int {
		return 1000*(a.Account.Kind-b.Account.Kind) + 10*(a.Account.Node-b.Account.Node) + a.Account.Group - b.Account.Group
	})
	if _, err := l.Purse().Journal().Post(entry.Entry{Kind: entry.Hold, Legs: legs}); err != api.OK {
		panic(fmt.Sprint("Post: ", legs, err))
	}
}

// at answers the ledger of the same parts at another time.
func at(t *testing.T, l *ledger.Ledger, now int) *ledger.Ledger {
	t.Helper()
	p := l.Parts()
	p.Now = now
	m, err := ledger.Make(p)
	if err != api.OK {
		t.Fatalf("Make: %d", err)
	}
	return m
}

// dump answers all that a ledger tells.
func dump(l *ledger.Ledger) string {
	var b strings.Builder
	p := l.Parts()
	fmt.Fprintln(&b, p.Config, p.Now, p.Plans, p.Rhythms, p.Past)
	for id := 1; id <= api.MaxNodes; id++ {
		n, err := l.Tree().Get(id)
		fmt.Fprintln(&b, n, err, l.Purse().Get(id))
	}
	j := l.Purse().Journal()
	fmt.Fprintln(&b, j.Len(), j.Period(), j.Accounts())
	for i := range j.Len() {
		e, period, _ := j.At(i)
		fmt.Fprintln(&b, e, period)
	}
	sheet, _ := l.Sheet().Write()
	table, _ := l.Table().Write()
	fmt.Fprintf(&b, "%x\n%x\n", sheet, table)
	return b.String()
}

// above answers the nodes above a node that is there, the nearest one first.
func above(l *ledger.Ledger, id int) []int {
	var all []int
	for {
		n, err := l.Tree().Get(id)
		if err != api.OK || n.Parent == 0 {
			return all
		}
		id = n.Parent
		all = append(all, id)
	}
}

// balances answers the opposite of all accounts' balances, by going through the entries.
func balances(l *ledger.Ledger) map[entry.Account]int {
	all := map[entry.Account]int{}
	j := l.Purse().Journal()
	for i := range j.Len() {
		e, _, _ := j.At(i)
		for _, leg := range e.Legs {
			all[leg.Account] -= leg.Amount
		}
	}
	return all
}

// sessionsHold answers what the open sessions hold at each node, from each session upwards.
func sessionsHold(l *ledger.Ledger) map[int]int {
	all := map[int]int{}
	for _, id := range l.Table().Ids() {
		s, _ := l.Table().Get(id)
		if _, err := l.Tree().Get(s.Node); err != api.OK {
			continue
		}
		for _, node := range append(above(l, s.Node), s.Node) {
			for _, g := range s.Grants {
				all[node] += g.Amount
			}
		}
	}
	return all
}

// rowsCome answers what the rows of the open period come to at each node, however great that is.
func rowsCome(l *ledger.Ledger) [33]*big.Int {
	var all [33]*big.Int
	nodes := make([]int, 33)
	for i := range all {
		all[i], nodes[i] = new(big.Int), i
	}
	for _, r := range l.Sheet().Rows(l.Purse().Journal().Period(), nodes) {
		all[r.Node].Add(all[r.Node], new(big.Int).Mul(big.NewInt(int64(r.Blocks)), big.NewInt(int64(r.Price))))
	}
	return all
}

// plain answers what Look ought to find, but for what no parts can be made to: a journal's sums are like each other always.
func plain(l *ledger.Ledger) []finding {
	found := map[finding]int{}
	says, hold, come := balances(l), sessionsHold(l), rowsCome(l)
	for node := 1; node <= api.MaxNodes; node++ {
		a, available := l.Purse().Get(node), l.Purse().Available(node)
		if available != says[fundsOf(node)] || a.Held != says[heldOf(node)] {
			found[finding{1, node}]++
		}
		if available < 0 || a.Held < 0 {
			found[finding{2, node}]++
		}
		if a.Held != hold[node] {
			found[finding{3, node}]++
		}
		n, err := l.Tree().Get(node)
		if n.Kind == 3 && come[node].Cmp(big.NewInt(int64(a.Used))) != 0 {
			found[finding{4, node}]++
		}
		for _, up := range above(l, node) {
			if x, _ := l.Tree().Get(up); err == api.OK && !n.Closed && x.Closed {
				found[finding{6, node}]++
			}
		}
	}
	for _, id := range l.Table().Ids() {
		s, _ := l.Table().Get(id)
		if s.Deadline < l.Now() {
			found[finding{5, s.Node}]++
		}
		if n, _ := l.Tree().Get(s.Node); n.Kind != 3 {
			found[finding{6, s.Node}]++
		}
	}
	var all []finding
	for kind := 1; kind <= 6; kind++ {
		for node := range 33 {
			if found[finding{kind, node}] > 0 {
				all = append(all, finding{kind, node})
			}
		}
	}
	return all
}

// finds holds that Look finds just this, and that the plain model does.
func finds(t *testing.T, what string, l *ledger.Ledger, want ...finding) {
	t.Helper()
	if got := audit.Look(l); !slices.Equal(got, want) {
		t.Errorf("%s: %v, not %v", what, got, want)
	}
	if got := plain(l); !slices.Equal(got, want) {
		t.Errorf("%s: the model finds %v, not %v", what, got, want)
	}
}
