package ledger_test

import (
	"fmt"
	"math"
	"testing"

	"purser/api"
	"purser/credit"
	"purser/ledger"
	"purser/tariff"
	"purser/wire"
)

// asked is a ledger, and a request that it would do.
type asked struct {
	t *testing.T
	l *ledger.Ledger
	r request
}

// fault is one thing that is wrong, and the error by which it is told.
type fault struct {
	what string
	err  api.Errno
	bend func(x *asked)
}

// row is a kind's row of the chapter's table: a request, and what can be wrong with it, in order. Each step has faults
// that are looked for at once.
type row struct {
	r     request
	steps [][]fault
}

// ready answers a ledger in its second period, with nodes of all kinds, open and closed, sessions and events.
func ready(t *testing.T) *ledger.Ledger {
	t.Helper()
	l := begin(t, some)
	for _, r := range []request{
		{Kind: wire.Create, Node: 5, Parent: 2, Sort: api.Project, Limit: -1},
		{Kind: wire.Create, Node: 6, Parent: 2, Sort: api.Project, Limit: 10},
		{Kind: wire.TopUp, Node: 6, Amount: 1000},
		{Kind: wire.Create, Node: 7, Parent: 2, Sort: api.Project, Limit: -1},
		{Kind: wire.Shut, Node: 7},
		{Kind: wire.Create, Node: 8, Parent: 1, Sort: api.Team, Limit: -1},
		{Kind: wire.Shut, Node: 8},
		{Kind: wire.Create, Node: 9, Parent: 1, Sort: api.Team, Limit: -1},
		{Kind: wire.Create, Node: 10, Sort: api.Org, Limit: -1},
		{Kind: wire.Event, Number: 30, Node: 4, Group: 1, Units: 1},
		{Kind: wire.Event, Number: 31, Node: 4, Group: 1, Units: 1},
		{Kind: wire.Refund, Of: 31},
		{Kind: wire.Roll, Carry: []int{1, 2, 3, 4, 5, 6}},
		{Kind: wire.Event, Number: 1, Node: 3, Group: 1, Units: 1},
		{Kind: wire.Event, Number: 2, Node: 3, Group: 1, Units: 1},
		{Kind: wire.Refund, Of: 2},
		{Kind: wire.Initial, Session: 20, Node: 3, Items: []item{{Group: 1, Want: 10}}},
	} {
		does(t, l, r)
	}
	return l
}

// with answers a fault of a request alone.
func with(what string, err api.Errno, bend func(r *request)) fault {
	return fault{what, err, func(x *asked) { bend(&x.r) }}
}

// itemFaults answers what can be wrong with items that tell or want units out of bounds: whatever else they have stays.
func itemFaults(bad func(n int) item, least int) []fault {
	l := []fault{
		with("five items", api.ErrArg, func(r *request) {
			r.Items = append(r.Items, item{Group: 4, Want: 1}, item{Group: 5, Want: 1}, item{Group: 6, Want: 1}, item{Group: 7, Want: 1})
		}),
		with("two of one group", api.ErrArg, func(r *request) { r.Items = append(r.Items, item{Group: 2, Want: 1}, item{Group: 2, Want: 1}) }),
		with("two of no group", api.ErrArg, func(r *request) { r.Items = append(r.Items, item{Group: -5, Want: 1}, item{Group: -5, Want: 1}) }),
	}
	for _, n := range []int{least - 1, least - 2, maxUnits + 1, math.MinInt, math.MaxInt} {
		l = append(l, with(fmt.Sprint("units ", n), api.ErrArg, func(r *request) { r.Items = append(r.Items, bad(n)) }))
	}
	return l
}

// far puts the position of a request's project, in a group, above 2^39.
func far(x *asked, group int) {
	node := x.r.Node
	if x.r.Kind == wire.Update {
		node = 3
	}
	x.l.Sheet().Add(1, node, group, []api.Line{{Tier: 0, Blocks: 1<<39 + 1, Price: 0}})
}

// wantFaults answers what can be wrong with the groups of which something is wanted.
func wantFaults() [][]fault {
	l := [][]fault{nil, {{"a great position", api.ErrOver, func(x *asked) {
		far(x, 3)
		x.r.Items = append(x.r.Items, item{Group: 3, Want: 1})
	}}}}
	for _, group := range []int{8, 0, 9, -1, math.MaxInt} {
		l[0] = append(l[0], with(fmt.Sprint("group ", group), api.ErrMiss, func(r *request) { r.Items = append(r.Items, item{Group: group, Want: 1}) }))
	}
	return l
}

// nodeFaults answers what can be wrong with a node whose project is asked for.
func nodeFaults() [][]fault {
	l := [][]fault{nil, nil, {with("a closed project", api.ErrClosed, func(r *request) { r.Node = 7 })}}
	for _, node := range []int{0, 11, 33, -1, math.MinInt, math.MaxInt} {
		l[0] = append(l[0], with(fmt.Sprint("node ", node), api.ErrMiss, func(r *request) { r.Node = node }))
	}
	for _, node := range []int{1, 2, 8} {
		l[1] = append(l[1], with(fmt.Sprint("node ", node), api.ErrKind, func(r *request) { r.Node = node }))
	}
	return l
}

// fullFaults answers the ways in which a ledger is nearly full.
func fullFaults() []fault {
	return []fault{{"many rows", api.ErrFull, func(x *asked) { many(x.t, x.l, 3585) }}, {"many entries", api.ErrFull, func(x *asked) {
		for x.l.Purse().Journal().Len() <= 15872 {
			x.l.Purse().TopUp(32, 1)
		}
	}}}
}

// missing answers the fault that a node isn't there.
func missing() []fault {
	return []fault{
		with("no node", api.ErrMiss, func(r *request) { r.Node = 11 }),
		with("node 0", api.ErrMiss, func(r *request) { r.Node = 0 }),
		with("node 33", api.ErrMiss, func(r *request) { r.Node = 33 }),
	}
}

// closed answers the fault that a node is closed.
func closed() []fault {
	return []fault{
		with("a closed project", api.ErrClosed, func(r *request) { r.Node = 7 }),
		with("a closed team", api.ErrClosed, func(r *request) { r.Node = 8 }),
	}
}

func initialRow() row {
	steps := append(nodeFaults(), append(
		[]fault{with("no items", api.ErrArg, func(r *request) { r.Items = nil })},
		itemFaults(func(n int) item { return item{Group: 1, Want: n} }, 1)...,
	))
	steps = append(steps, wantFaults()...)
	var numbers []fault
	for _, id := range []int{0, -1, 1<<62 + 1, math.MinInt, math.MaxInt} {
		numbers = append(numbers, with(fmt.Sprint("session ", id), api.ErrArg, func(r *request) { r.Session = id }))
	}
	stale := []fault{
		with("the last session", api.ErrStale, func(r *request) { r.Session = 20 }),
		with("an early session", api.ErrStale, func(r *request) { r.Session = 1 }),
	}
	full := append(fullFaults(), fault{"no place", api.ErrFull, func(x *asked) {
		for id := 40; id <= 41; id++ {
			x.l.Table().Add(credit.Session{Id: id, Node: 4})
		}
		if x.r.Session == 21 {
			x.r.Session = 42
		}
	}})
	return row{
		request{Kind: wire.Initial, Session: 21, Node: 3, Items: []item{{Group: 2, Used: -7, Want: 1}}},
		append(steps, numbers, stale, full, []fault{with("a poor project", api.ErrCredit, func(r *request) { r.Node = 5 })}),
	}
}

// stepFaults answers what can be wrong with a session's number, and its request's.
func stepFaults() [][]fault {
	l := make([][]fault, 2)
	for _, id := range []int{0, 19, 21, -1, math.MinInt, math.MaxInt} {
		l[0] = append(l[0], with(fmt.Sprint("session ", id), api.ErrMiss, func(r *request) { r.Session = id }))
	}
	for _, number := range []int{0, 2, -1, math.MinInt, math.MaxInt} {
		l[1] = append(l[1], with(fmt.Sprint("number ", number), api.ErrOrder, func(r *request) { r.Number = number }))
	}
	return l
}

// usedFaults answers the ways in which too much was used.
func usedFaults() []fault {
	return []fault{
		with("one more used", api.ErrUsed, func(r *request) { r.Items = append([]item{{Group: 1, Used: 11}}, r.Items[1:]...) }),
		with("used of what isn't granted", api.ErrUsed, func(r *request) { r.Items = append(r.Items, item{Group: 5, Used: 1}) }),
	}
}

func updateRow() row {
	items := append(
		itemFaults(func(n int) item { return item{Group: 6, Want: n} }, 0),
		itemFaults(func(n int) item { return item{Group: 6, Used: n} }, 0)...,
	)
	return row{
		request{Kind: wire.Update, Session: 20, Number: 1, Items: []item{{Group: 1, Used: 10, Want: 1}}},
		append(append(stepFaults(), items, usedFaults()), wantFaults()...),
	}
}

func terminateRow() row {
	items := itemFaults(func(n int) item { return item{Group: 6, Used: n} }, 0)
	return row{
		request{Kind: wire.Terminate, Session: 20, Number: 1, Items: []item{{Group: 1, Used: 10, Want: -7}}},
		append(stepFaults(), items, usedFaults()),
	}
}

func eventRow() row {
	var units, groups []fault
	for _, n := range []int{0, -1, maxUnits + 1, math.MinInt, math.MaxInt} {
		units = append(units, with(fmt.Sprint("units ", n), api.ErrArg, func(r *request) { r.Units = n }))
	}
	for _, group := range []int{8, 0, 9, -1, math.MaxInt} {
		groups = append(groups, with(fmt.Sprint("group ", group), api.ErrMiss, func(r *request) { r.Group = group }))
	}
	position := fault{"a great position", api.ErrOver, func(x *asked) { far(x, 1) }}
	return row{
		request{Kind: wire.Event, Number: 3, Node: 3, Group: 1, Units: 4},
		append(nodeFaults(), units, groups, []fault{position}, fullFaults(), []fault{
			with("a poor project", api.ErrCredit, func(r *request) { r.Node = 5 }),
			with("more than there is", api.ErrCredit, func(r *request) { r.Units = 900 }),
			with("a limit", api.ErrLimit, func(r *request) { r.Node = 6 }),
		}),
	}
}

func refundRow() row {
	var stale []fault
	for _, of := range []int{30, 31, 0, 3, -1, math.MaxInt} {
		stale = append(stale, with(fmt.Sprint("event ", of), api.ErrStale, func(r *request) { r.Of = of }))
	}
	there := []fault{with("refunded", api.ErrThere, func(r *request) { r.Of = 2 })}
	return row{request{Kind: wire.Refund, Number: 1, Of: 1}, [][]fault{stale, there, fullFaults()}}
}

func createRow() row {
	return row{request{Kind: wire.Create, Node: 11, Parent: 2, Sort: api.Project, Limit: -1}, [][]fault{
		{
			with("node 0", api.ErrArg, func(r *request) { r.Node = 0 }),
			with("node 33", api.ErrArg, func(r *request) { r.Node = 33 }),
			with("limit -2", api.ErrArg, func(r *request) { r.Limit = -2 }),
			with("a great limit", api.ErrArg, func(r *request) { r.Limit = maxAmount + 1 }),
		},
		{with("no kind", api.ErrKind, func(r *request) { r.Sort = 4 }), with("an Org below", api.ErrKind, func(r *request) { r.Sort = api.Org })},
		{with("there already", api.ErrThere, func(r *request) { r.Node = 3 })},
		{with("no parent", api.ErrMiss, func(r *request) { r.Parent = 31 })},
		{with("below an Org", api.ErrKind, func(r *request) { r.Parent = 1 })},
		{with("below a closed team", api.ErrClosed, func(r *request) { r.Parent = 8 })},
	}}
}

func moveRow() row {
	return row{request{Kind: wire.Move, Node: 4, Parent: 9}, [][]fault{
		missing(),
		{
			with("used and held", api.ErrBusy, func(r *request) { r.Node = 3 }),
			with("an Org, used and held", api.ErrBusy, func(r *request) { r.Node = 1 }),
			{"held", api.ErrBusy, func(x *asked) {
				x.l.Do(request{Kind: wire.Initial, Session: 70, Node: 4, Items: []item{{Group: 1, Want: 1}}})
				x.r.Node = 4
			}},
			{"used", api.ErrBusy, func(x *asked) {
				x.l.Do(request{Kind: wire.Event, Number: 70, Node: 4, Group: 1, Units: 1})
				x.r.Node = 4
			}},
			{"used and closed", api.ErrBusy, func(x *asked) {
				x.l.Do(request{Kind: wire.Event, Number: 70, Node: 4, Group: 1, Units: 1})
				x.l.Do(request{Kind: wire.Shut, Node: 4})
				x.r.Node = 4
			}},
		},
		closed(),
		{with("an Org", api.ErrKind, func(r *request) { r.Node = 10 })},
		{with("no parent", api.ErrMiss, func(r *request) { r.Parent = 31 })},
		{with("under an Org", api.ErrKind, func(r *request) { r.Parent = 1 })},
		{with("under a closed team", api.ErrClosed, func(r *request) { r.Parent = 8 })},
		{with("there already", api.ErrThere, func(r *request) { r.Parent = 2 })},
	}}
}

func shutRow() row {
	return row{request{Kind: wire.Shut, Node: 4}, [][]fault{
		missing(),
		{with("held", api.ErrBusy, func(r *request) { r.Node = 3 }), with("held below", api.ErrBusy, func(r *request) { r.Node = 1 })},
		closed(),
		{{"open below", api.ErrBusy, func(x *asked) {
			x.l.Do(request{Kind: wire.Create, Node: 12, Parent: 10, Sort: api.Team, Limit: -1})
			x.r.Node = 10
		}}},
	}}
}

func limitRow() row {
	return row{request{Kind: wire.Limit, Node: 4, Limit: 5}, [][]fault{
		missing(),
		{
			with("limit -2", api.ErrArg, func(r *request) { r.Limit = -2 }),
			with("a great limit", api.ErrArg, func(r *request) { r.Limit = maxAmount + 1 }),
		},
		closed(),
	}}
}

func topUpRow() row {
	var amounts []fault
	for _, n := range []int{0, -1, maxAmount + 1, math.MinInt, math.MaxInt} {
		amounts = append(amounts, with(fmt.Sprint("amount ", n), api.ErrArg, func(r *request) { r.Amount = n }))
	}
	over := []fault{with("too great a sum", api.ErrOver, func(r *request) { r.Amount = maxAmount - 990 })}
	return row{request{Kind: wire.TopUp, Node: 4, Amount: 1}, [][]fault{missing(), closed(), fullFaults(), amounts, over}}
}

func priceRow() row {
	bent := func(what string, bend func(p *tariff.Plan)) fault {
		return with(what, api.ErrArg, func(r *request) { bend(&r.Plan) })
	}
	return row{request{Kind: wire.Price, Plan: flat(2, 5)}, [][]fault{
		{
			bent("group 0", func(p *tariff.Plan) { p.Base.Group = 0 }),
			bent("group 9", func(p *tariff.Plan) { p.Base.Group = 9 }),
			bent("no mode", func(p *tariff.Plan) { p.Base.Mode = 3 }),
			bent("no tiers", func(p *tariff.Plan) { p.Base.Tiers = nil }),
			bent("no end", func(p *tariff.Plan) { p.Base.Tiers = []api.Tier{{Upto: 3, Price: 1}} }),
			bent("From", func(p *tariff.Plan) { p.From = 1 }),
			bent("no other", func(p *tariff.Plan) { p.Day, p.To = 9, 3 }),
			bent("another group", func(p *tariff.Plan) { p.Day, p.To, p.Other = 9, 3, flat(7, 1).Base }),
		},
		{with("granted", api.ErrBusy, func(r *request) { r.Plan.Base.Group = 1 })},
	}}
}

func rollRow() row {
	last := fault{"the last period", api.ErrFull, func(x *asked) {
		for x.l.Purse().Journal().Period() < 31 {
			x.l.Purse().Roll([]int{1, 2, 3, 4, 6})
		}
	}}
	return row{request{Kind: wire.Roll}, [][]fault{fullFaults(), {last}}}
}

func billRow() row {
	var open, none []fault
	for _, n := range []int{1, 2, 32, math.MaxInt} {
		open = append(open, with(fmt.Sprint("period ", n), api.ErrMiss, func(r *request) { r.Period = n }))
	}
	for _, n := range []int{-1, math.MinInt} {
		none = append(none, with(fmt.Sprint("period ", n), api.ErrArg, func(r *request) { r.Period = n }))
	}
	return row{request{Kind: wire.Bill, Node: 1}, [][]fault{missing(), open, none}}
}

// rows answers all rows of the chapter's table.
func rows() []row {
	balance := row{request{Kind: wire.Balance, Node: 3}, [][]fault{missing()}}
	l := []row{initialRow(), updateRow(), terminateRow(), eventRow(), refundRow(), createRow(), moveRow(), shutRow()}
	return append(l, limitRow(), topUpRow(), priceRow(), rollRow(), balance, billRow())
}

func TestP23_1_WithoutAFaultItIsDone(t *testing.T) {
	for _, x := range rows() {
		does(t, ready(t), x.r)
	}
	if n := len(rows()); n != 14 {
		t.Errorf("%d rows", n)
	}
}

func TestP23_1_EachFault(t *testing.T) {
	for _, x := range rows() {
		for _, step := range x.steps {
			for _, f := range step {
				a := asked{t, ready(t), copied(x.r)}
				f.bend(&a)
				refuses(t, f.what, a.l, a.r, f.err)
			}
		}
	}
	for _, kind := range []int{0, 15, -1, 256 + 1, math.MinInt, math.MaxInt} {
		refuses(t, "no kind", ready(t), request{Kind: kind, Node: 3, Number: 1, Session: 20}, api.ErrForm)
	}
}

// Of two things that are wrong at once the first one is told: the later one is bent first, so that the earlier one stands
// wherever both can't.
func TestP23_1_TheFirstFaultIsTold(t *testing.T) {
	for _, x := range rows() {
		for i, step := range x.steps {
			for _, later := range x.steps[i+1:] {
				for k, first := range step {
					second := later[k%len(later)]
					a := asked{t, ready(t), copied(x.r)}
					second.bend(&a)
					first.bend(&a)
					refuses(t, first.what+" ahead of "+second.what, a.l, a.r, first.err)
				}
			}
		}
	}
}

// Of all that can be wrong at once the first thing is told.
func TestP23_1_AllFaultsAtOnce(t *testing.T) {
	for _, x := range rows() {
		for i := range x.steps {
			a := asked{t, ready(t), copied(x.r)}
			for k := len(x.steps) - 1; k >= i; k-- {
				x.steps[k][len(x.steps[k])/2].bend(&a)
			}
			first := x.steps[i][len(x.steps[i])/2]
			refuses(t, first.what+" ahead of all", a.l, a.r, first.err)
		}
	}
}
