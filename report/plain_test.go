package report_test

import (
	"fmt"
	"math/big"
	"slices"
	"strings"
	"testing"

	"purser/api"
	"purser/entry"
	"purser/image"
	"purser/ledger"
	"purser/report"
	"purser/rhythm"
	"purser/server"
	"purser/tariff"
	"purser/window"
	"purser/wire"
)

type (
	request = wire.Request
	item    = wire.Item
)

// made answers a new ledger.
func made(t *testing.T) *ledger.Ledger {
	t.Helper()
	l, err := ledger.New(ledger.Config{Validity: 5, Places: 8, Day: 8})
	if err != api.OK {
		t.Fatalf("New: %d", err)
	}
	return l
}

// with answers a ledger of another one's parts, that were changed.
func with(t *testing.T, l *ledger.Ledger, change func(p *ledger.Parts)) *ledger.Ledger {
	t.Helper()
	p := l.Parts()
	change(&p)
	x, err := ledger.Make(p)
	if err != api.OK {
		t.Fatalf("Make: %d", err)
	}
	return x
}

// does holds that requests are answered without an error.
func does(t *testing.T, l *ledger.Ledger, all ...request) {
	t.Helper()
	for _, r := range all {
		if a := l.Do(r); a.Err != api.OK {
			t.Fatalf("%+v: %+v", r, a)
		}
	}
}

// ticks lets so many steps of time go by.
func ticks(t *testing.T, l *ledger.Ledger, n int) {
	t.Helper()
	for range n {
		if _, err := l.Tick(); err != api.OK {
			t.Fatalf("Tick: %d", err)
		}
	}
}

// create answers the request for a node.
func create(node, parent, sort, limit int) request {
	return request{Kind: wire.Create, Node: node, Parent: parent, Sort: sort, Limit: limit}
}

// topUp answers the request to give a node more.
func topUp(node, amount int) request {
	return request{Kind: wire.TopUp, Node: node, Amount: amount}
}

// flat answers the request for a plan of one tier.
func flat(group, price int) request {
	return request{Kind: wire.Price, Plan: tariff.Plan{Base: api.Tariff{Group: group, Mode: api.Graduated, Block: 1, Tiers: []api.Tier{{Price: price}}}}}
}

// event answers the request to let units be paid for at once.
func event(number, node, group, units int) request {
	return request{Kind: wire.Event, Number: number, Node: node, Group: group, Units: units}
}

// asBytes answers all that is in a ledger, as bytes.
func asBytes(t *testing.T, l *ledger.Ledger) string {
	t.Helper()
	events, _ := window.New(api.MaxEvents, false)
	p := server.Parts{Ledger: l, Events: events}
	for _, id := range l.Table().Ids() {
		w, _ := window.New(api.MaxNumbers, true)
		p.Sessions = append(p.Sessions, server.Known{Id: id, Window: w})
	}
	s, err := server.Make(p)
	if err != api.OK {
		t.Fatalf("server.Make: %d", err)
	}
	b, err := image.Pack(s)
	if err != api.OK {
		t.Fatalf("Pack: %d", err)
	}
	return string(b)
}

// tells holds that a call tells this, twice, and changes nothing of the ledger.
func tells(t *testing.T, what string, l *ledger.Ledger, want string, call func() string) {
	t.Helper()
	before := asBytes(t, l)
	for range 2 {
		if got := call(); got != want {
			t.Errorf("%s:\n%s\nnot\n%s", what, got, want)
		}
	}
	if asBytes(t, l) != before {
		t.Errorf("%s: the ledger has changed", what)
	}
}

func tellsTrial(t *testing.T, l *ledger.Ledger, period int, want string) {
	t.Helper()
	tells(t, fmt.Sprintf("Trial(%d)", period), l, want, func() string { return report.Trial(l, period) })
}

func tellsTree(t *testing.T, l *ledger.Ledger, want string) {
	t.Helper()
	tells(t, "Tree", l, want, func() string { return report.Tree(l) })
}

func tellsDay(t *testing.T, l *ledger.Ledger, node int, want string) {
	t.Helper()
	tells(t, fmt.Sprintf("Day(%d)", node), l, want, func() string { return report.Day(l, node) })
}

func tellsShares(t *testing.T, l *ledger.Ledger, node, cost int, want string) {
	t.Helper()
	tells(t, fmt.Sprintf("Shares(%d, %d)", node, cost), l, want, func() string { return report.Shares(l, node, cost) })
}

// trialOf reckons a period's trial by the journal's entries, one by one.
func trialOf(l *ledger.Ledger, period int) string {
	j := l.Purse().Journal()
	if period < -1 || period > j.Period() {
		return "no trial\n"
	}
	moved := map[entry.Account]*big.Int{}
	debits, credits := new(big.Int), new(big.Int)
	for i := range j.Len() {
		e, of, _ := j.At(i)
		for _, leg := range e.Legs {
			n := big.NewInt(int64(leg.Amount))
			if of == period {
				if moved[leg.Account] == nil {
					moved[leg.Account] = new(big.Int)
				}
				moved[leg.Account].Add(moved[leg.Account], n)
			}
			if of == period || period == -1 {
				if n.Sign() > 0 {
					debits.Add(debits, n)
				} else {
					credits.Sub(credits, n)
				}
			}
		}
	}
	s := ""
	for kind, name := range []string{"", "cash", "funds", "held", "usage", "expired"} {
		for node := range 33 {
			for group := range 9 {
				n := moved[entry.Account{Kind: kind, Node: node, Group: group}]
				if n == nil || n.Sign() == 0 {
					continue
				}
				switch kind {
				case 1:
					s += fmt.Sprintf("%s: %d\n", name, n)
				case 4:
					s += fmt.Sprintf("%s %d group %d: %d\n", name, node, group, n)
				default:
					s += fmt.Sprintf("%s %d: %d\n", name, node, n)
				}
			}
		}
	}
	if !debits.IsInt64() || !credits.IsInt64() {
		return s + "no trial\n"
	}
	return s + fmt.Sprintf("debits %d credits %d\n", debits, credits)
}

// treeOf sorts all nodes by the Ids on their paths.
func treeOf(l *ledger.Ledger) string {
	var paths [][]int
	for node := 1; node <= 32; node++ {
		if path, err := l.Tree().Path(node); err == api.OK {
			paths = append(paths, path)
		}
	}
	slices.SortFunc(paths, slices.Compare)
	s := ""
	for _, path := range paths {
		n, _ := l.Tree().Get(path[len(path)-1])
		a := l.Purse().Get(n.Id)
		s += fmt.Sprintf("%*s%s %d", 2*(len(path)-1), "", []string{"org", "team", "project"}[len(path)-1], n.Id)
		if n.Closed {
			s += " closed"
		}
		s += fmt.Sprintf(": available %d held %d used %d", a.Topped+a.Carried-a.Expired-a.Used-a.Held, a.Held, a.Used)
		if n.Limit >= 0 {
			s += fmt.Sprintf(" limit %d", n.Limit)
		}
		s += "\n"
	}
	return s
}

// dayOf reckons where a rhythm points by what is more on which side.
func dayOf(r rhythm.Rhythm) string {
	q := r.Quarters
	total := 0
	for _, n := range q {
		if n < 0 || n > 1<<50 {
			return "no quarter of 0 blocks\n"
		}
		total += n
	}
	x, y := q[0]-q[2], q[1]-q[3]
	if x == 0 && y == 0 {
		return fmt.Sprintf("no quarter of %d blocks\n", total)
	}
	quarter := 0
	switch {
	case max(y, -y) > max(x, -x) && y > 0:
		quarter = 1
	case max(y, -y) > max(x, -x):
		quarter = 3
	case x < 0:
		quarter = 2
	}
	square := func(n int) *big.Int { return new(big.Int).Mul(big.NewInt(int64(n)), big.NewInt(int64(n))) }
	strength := square(x)
	strength.Add(strength, square(y))
	if !strength.IsInt64() {
		return fmt.Sprintf("quarter %d of %d blocks, strength too great\n", quarter, total)
	}
	return fmt.Sprintf("quarter %d of %d blocks, strength %d\n", quarter, total, strength)
}

// sharesOf spreads a cost over the projects that have a node on their path.
func sharesOf(l *ledger.Ledger, node, cost int) string {
	var projects []int
	used, all := map[int]*big.Int{}, new(big.Int)
	for id := 1; id <= 32; id++ {
		path, _ := l.Tree().Path(id)
		if len(path) == 3 && slices.Contains(path, node) {
			projects = append(projects, id)
			used[id] = big.NewInt(int64(l.Purse().Get(id).Used))
			all.Add(all, used[id])
		}
	}
	if all.Sign() == 0 || !all.IsInt64() || cost < 0 {
		return "no shares\n"
	}
	parts, left := map[int]*big.Int{}, big.NewInt(int64(cost))
	for _, id := range projects {
		parts[id] = new(big.Int).Mul(big.NewInt(int64(cost)), used[id])
		parts[id].Div(parts[id], all)
		left.Sub(left, parts[id])
	}
	one := big.NewInt(1)
	var s strings.Builder
	for _, id := range projects {
		if used[id].Sign() > 0 && left.Sign() > 0 {
			parts[id].Add(parts[id], one)
			left.Sub(left, one)
		}
		fmt.Fprintf(&s, "project %d: %d\n", id, parts[id])
	}
	return s.String()
}

// agrees holds that all calls tell of a ledger what the plain model does.
func agrees(t *testing.T, l *ledger.Ledger) {
	t.Helper()
	for period := -2; period <= l.Purse().Journal().Period()+1; period++ {
		want := trialOf(l, period)
		tellsTrial(t, l, period, want)
		comesToNought(t, want)
	}
	tellsTree(t, l, treeOf(l))
	for node := -1; node <= 33; node++ {
		tellsDay(t, l, node, dayOf(l.Rhythm(node)))
		for _, cost := range []int{-1, 0, 1, 2, 7, 100, 1 << 62} {
			tellsShares(t, l, node, cost, sharesOf(l, node, cost))
		}
	}
}

// comesToNought holds that the amounts of a trial's lines come to nought.
func comesToNought(t *testing.T, trial string) {
	t.Helper()
	sum := new(big.Int)
	for _, line := range strings.Split(trial, "\n") {
		if _, amount, ok := strings.Cut(line, ": "); ok {
			n, ok := new(big.Int).SetString(amount, 10)
			if !ok {
				t.Errorf("%q has no amount", line)
				continue
			}
			sum.Add(sum, n)
		}
	}
	if sum.Sign() != 0 {
		t.Errorf("%d is left of\n%s", sum, trial)
	}
}
