package audit_test

import (
	"fmt"
	"math/rand"
	"slices"
	"testing"

	"purser/api"
	"purser/audit"
	"purser/credit"
	"purser/entry"
	"purser/ledger"
	"purser/period"
	"purser/tree"
	"purser/usage"
	"purser/wire"
)

func TestP27_1_Example(t *testing.T) {
	finds(t, "a new ledger", made(t, ledger.Config{Validity: 5, Places: 2, Day: 24}))
}

func TestP27_1_NoLedger(t *testing.T) {
	for what, l := range map[string]*ledger.Ledger{"nil": nil, "one that wasn't made": new(ledger.Ledger)} {
		if got := audit.Look(l); len(got) != 0 {
			t.Errorf("%s: %v", what, got)
		}
	}
}

// Parts that weren't made by New are empty ones, and a purse of none has no journal.
func TestP27_1_PartsOfNoNew(t *testing.T) {
	c := ledger.Config{Validity: 5, Places: 2, Day: 24}
	p := ledger.Parts{Config: c, Tree: new(tree.Tree), Purse: new(period.Purse), Sheet: new(usage.Sheet), Table: new(credit.Table)}
	l, err := ledger.Make(p)
	if err != api.OK {
		t.Fatal(err)
	}
	if got := audit.Look(l); len(got) != 0 {
		t.Errorf("%v", got)
	}
	p.Table, _ = credit.New(3)
	p.Table.Add(session(1, 9, 5, 30))
	p.Now = 6
	l, _ = ledger.Make(p)
	if got := audit.Look(l); !slices.Equal(got, []finding{{5, 9}, {6, 9}}) {
		t.Errorf("%v", got)
	}
}

// spoiled is a way in which a ledger's parts don't agree any more, and what is found then.
type spoiled struct {
	what string
	do   func(l *ledger.Ledger)
	want []finding
}

// all holds that of each ledger that was spoiled just that is found.
func all(t *testing.T, l []spoiled) {
	t.Helper()
	for _, c := range l {
		x := laid(t)
		finds(t, "ahead of "+c.what, x)
		c.do(x)
		before := dump(x)
		finds(t, c.what, x, c.want...)
		if dump(x) != before {
			t.Errorf("%s: the ledger has changed", c.what)
		}
		finds(t, c.what+", once more", x, c.want...)
	}
}

// every answers a kind's findings at several nodes.
func every(kind int, nodes ...int) []finding {
	var l []finding
	for _, node := range nodes {
		l = append(l, finding{kind, node})
	}
	return l
}

func TestP27_1_Balance(t *testing.T) {
	path := func(kind int, nodes ...int) func(l *ledger.Ledger) {
		return func(l *ledger.Ledger) {
			e, _ := entry.Make(kind, 5, nodes, 1)
			l.Purse().Journal().Post(e)
		}
	}
	all(t, []spoiled{
		{"more is available by the journal", func(l *ledger.Ledger) { moves(l, 1, fundsOf(4), cash) }, every(1, 4)},
		{"less is available by the journal", func(l *ledger.Ledger) { moves(l, 1, cash, fundsOf(4)) }, every(1, 4)},
		{"more is held by the journal", func(l *ledger.Ledger) { moves(l, 1, heldOf(3), cash) }, every(1, 3)},
		{"less is held by the journal", func(l *ledger.Ledger) { moves(l, 1, cash, heldOf(3)) }, every(1, 3)},
		{"nothing is available by the journal", func(l *ledger.Ledger) { moves(l, 1000, cash, fundsOf(3)) }, every(1, 3)},
		{"below nought by the journal", func(l *ledger.Ledger) { moves(l, 1<<53, cash, fundsOf(3)) }, every(1, 3)},
		{"held of nothing", func(l *ledger.Ledger) { moves(l, 7, heldOf(4), cash) }, every(1, 4)},
		{"both at one node", path(entry.Hold, 3), every(1, 3)},
		{"both at one node, twice", func(l *ledger.Ledger) { path(entry.Hold, 3)(l); path(entry.Commit, 3)(l) }, every(1, 3)},
		{"along a path", path(entry.Hold, 3, 2, 1), every(1, 1, 2, 3)},
		{"topped up along a path", path(entry.TopUp, 7, 5), every(1, 5, 7)},
		{"committed in the journal", path(entry.Commit, 7), every(1, 7)},
		{"at a node that isn't in the tree", path(entry.Hold, 32, 8), every(1, 8, 32)},
		{"there and back", func(l *ledger.Ledger) { path(entry.Hold, 3)(l); path(entry.Release, 3)(l) }, nil},
		// What was used and what expired isn't looked at.
		{"use and what expired alone", func(l *ledger.Ledger) { moves(l, 5, usageOf(3, 1), cash); moves(l, 6, expiredOf(3), usageOf(4, 2)) }, nil},
	})
}

// A journal whose sums are no ints has no trial: that is no finding.
func TestP27_1_NoTrial(t *testing.T) {
	l := laid(t)
	var legs []entry.Leg
	for node := 1; node <= api.MaxNodes; node++ {
		legs = append(legs, entry.Leg{Account: fundsOf(node), Amount: 1 << 53})
	}
	for node := 1; node <= api.MaxNodes; node++ {
		legs = append(legs, entry.Leg{Account: heldOf(node), Amount: -1 << 53})
	}
	whole := entry.Entry{Kind: entry.Hold, Legs: legs}
	for range 20 {
		for _, e := range []entry.Entry{whole, entry.Opposite(whole)} {
			if _, err := l.Purse().Journal().Post(e); err != api.OK {
				t.Fatal(err)
			}
		}
	}
	if _, _, err := l.Purse().Journal().Trial(-1); err != api.ErrOver {
		t.Fatalf("Trial: %d", err)
	}
	finds(t, "no trial", l)
	moves(l, 5, cash, fundsOf(2))
	finds(t, "no trial, and a balance", l, every(1, 2)...)
}

func TestP27_1_Holding(t *testing.T) {
	all(t, []spoiled{
		{"more is held", func(l *ledger.Ledger) { l.Purse().Hold([]int{1}, []int{-1}, 1) }, every(3, 1)},
		{"more is held below", func(l *ledger.Ledger) { l.Purse().Hold([]int{7}, []int{-1}, 1) }, every(3, 7)},
		{"less is held", func(l *ledger.Ledger) { l.Purse().Release([]int{2}, 1) }, every(3, 2)},
		{"less is held along a path", func(l *ledger.Ledger) { l.Purse().Release([]int{3, 2, 1}, 30) }, every(3, 1, 2, 3)},
		{"the sessions hold more", func(l *ledger.Ledger) { l.Table().Set(session(1, 3, 5, 31)) }, every(3, 1, 2, 3)},
		{"the sessions hold less", func(l *ledger.Ledger) { l.Table().Set(session(2, 7, 5, 9)) }, every(3, 5, 6, 7)},
		{"a session is over", func(l *ledger.Ledger) { l.Table().End(1) }, every(3, 1, 2, 3)},
		{"one session more", func(l *ledger.Ledger) { l.Table().Add(session(9, 4, 5, 1)) }, every(3, 1, 2, 4)},
		{"one session more, that holds nothing", func(l *ledger.Ledger) { l.Table().Add(session(9, 4, 5, 0)) }, nil},
		{"a session of the project beside", func(l *ledger.Ledger) { l.Table().Set(session(1, 4, 5, 30)) }, every(3, 3, 4)},
		{"a session of another organization", func(l *ledger.Ledger) { l.Table().Set(session(1, 7, 5, 30)) }, every(3, 1, 2, 3, 5, 6, 7)},
		{"a session in two", func(l *ledger.Ledger) { l.Table().Set(session(1, 3, 5, 12)); l.Table().Add(session(9, 3, 5, 18)) }, nil},
		{"a project that was moved", func(l *ledger.Ledger) { l.Tree().Move(3, 6) }, every(3, 1, 2, 5, 6)},
		{"at a node that isn't in the tree", func(l *ledger.Ledger) {
			l.Purse().TopUp(32, 5)
			l.Purse().Hold([]int{32}, []int{-1}, 5)
		}, every(3, 32)},
		{"available at a node that isn't in the tree", func(l *ledger.Ledger) { l.Purse().TopUp(32, 5) }, nil},
	})
}

// great are rows, each of which comes to 2^60.
func great(l *ledger.Ledger, node, rows int) {
	for i := range rows {
		l.Sheet().Add(0, node, 1+i/6, []line{{Tier: i % 6, Blocks: 1 << 40, Price: 1 << 20}})
	}
}

func TestP27_1_Using(t *testing.T) {
	all(t, []spoiled{
		{"the rows come to more", func(l *ledger.Ledger) { l.Sheet().Add(0, 4, 1, []line{{Blocks: 1, Price: 1}}) }, every(4, 4)},
		{"the rows come to less", func(l *ledger.Ledger) { l.Sheet().Take(0, 4, 2, []line{{Blocks: 1, Price: 2}}) }, every(4, 4)},
		{"no rows", func(l *ledger.Ledger) { l.Sheet().Take(0, 4, 2, []line{{Blocks: 7, Price: 2}}) }, every(4, 4)},
		{"more was used", func(l *ledger.Ledger) { l.Purse().Hold([]int{4}, []int{-1}, 1); l.Purse().Commit([]int{4}, 1, 8) }, every(4, 4)},
		{"less was used", func(l *ledger.Ledger) { l.Purse().Refund([]int{4}, 1, 2) }, every(4, 4)},
		{"rows of what wasn't used", func(l *ledger.Ledger) { l.Sheet().Add(0, 3, 8, []line{{Tier: 5, Blocks: 1, Price: 1}}) }, every(4, 3)},
		{"rows at no price", func(l *ledger.Ledger) { l.Sheet().Add(0, 3, 8, []line{{Blocks: 1 << 40}}) }, nil},
		{"rows of the next period", func(l *ledger.Ledger) { l.Sheet().Add(1, 4, 1, []line{{Blocks: 1, Price: 1}}) }, nil},
		{"a period ahead", func(l *ledger.Ledger) { l.Purse().Journal().Close() }, every(4, 4)},
		{"a period ahead, and its rows", func(l *ledger.Ledger) {
			l.Purse().Journal().Close()
			l.Sheet().Add(1, 4, 1, []line{{Blocks: 14, Price: 1}})
		}, nil},
		{"rows of another group for it", func(l *ledger.Ledger) {
			l.Sheet().Take(0, 4, 2, []line{{Blocks: 3, Price: 2}})
			l.Sheet().Add(0, 4, 1, []line{{Tier: 2, Blocks: 1, Price: 5}, {Tier: 1, Blocks: 1, Price: 1}})
		}, nil},
		{"rows of the project beside", func(l *ledger.Ledger) {
			l.Sheet().Take(0, 4, 2, []line{{Blocks: 7, Price: 2}})
			l.Sheet().Add(0, 3, 2, []line{{Blocks: 7, Price: 2}})
		}, every(4, 3, 4)},
		{"all projects", func(l *ledger.Ledger) {
			for _, node := range []int{7, 4, 3} {
				l.Sheet().Add(0, node, 1, []line{{Blocks: 1, Price: 1}})
			}
		}, every(4, 3, 4, 7)},
		// Of what is no project neither is looked at.
		{"rows of others", func(l *ledger.Ledger) {
			for _, node := range []int{1, 2, 5, 6, 8, 32} {
				l.Sheet().Add(0, node, 1, []line{{Blocks: 1, Price: 1}})
			}
		}, nil},
		{"use of others", func(l *ledger.Ledger) {
			l.Purse().TopUp(32, 9)
			for _, node := range []int{1, 2, 5, 6, 32} {
				l.Purse().Hold([]int{node}, []int{-1}, 1)
				l.Purse().Commit([]int{node}, 1, 8)
			}
		}, nil},
		{"rows that come to no int", func(l *ledger.Ledger) { great(l, 3, 8) }, every(4, 3)},
		{"rows that would come round to nought", func(l *ledger.Ledger) { great(l, 3, 16) }, every(4, 3)},
		{"rows that come to the greatest sum of these", func(l *ledger.Ledger) { great(l, 3, 7) }, every(4, 3)},
	})
}

func TestP27_1_Late(t *testing.T) {
	l := laid(t)
	l.Table().Set(session(2, 7, 7, 10))
	finds(t, "at the deadline", at(t, l, 5))
	finds(t, "behind the first deadline", at(t, l, 6), every(5, 3)...)
	finds(t, "at the second deadline", at(t, l, 7), every(5, 3)...)
	finds(t, "behind both", at(t, l, 8), every(5, 3, 7)...)
	finds(t, "long behind both", at(t, l, 1<<61), every(5, 3, 7)...)
	l.Table().Add(session(9, 3, 4, 0))
	finds(t, "one of a node is late", at(t, l, 5), every(5, 3)...)
	finds(t, "two of a node are late", at(t, l, 6), every(5, 3)...)
	l.Table().Add(session(10, 4, 0, 0))
	finds(t, "none of time 0 is late", at(t, l, 0))
	finds(t, "one of time 0 is late", at(t, l, 1), every(5, 4)...)
	finds(t, "three nodes", at(t, l, 9), every(5, 3, 4, 7)...)
	// At a Tick a late session is over.
	late := at(t, l, 9)
	if over, err := late.Tick(); len(over) != 4 || err != api.OK {
		t.Errorf("%v, %d", over, err)
	}
	finds(t, "behind a Tick", late)
}

func TestP27_1_Path(t *testing.T) {
	all(t, []spoiled{
		{"a team's session", func(l *ledger.Ledger) { l.Table().Add(session(9, 2, 5, 0)) }, every(6, 2)},
		{"an organization's session", func(l *ledger.Ledger) { l.Table().Add(session(9, 5, 5, 0)) }, every(6, 5)},
		{"a session of a node that isn't there", func(l *ledger.Ledger) { l.Table().Add(session(9, 8, 5, 0)) }, every(6, 8)},
		{"what is held for a node that isn't there", func(l *ledger.Ledger) { l.Table().Add(session(9, 32, 5, 4)) }, every(6, 32)},
		{"two sessions of a team", func(l *ledger.Ledger) { l.Table().Add(session(8, 2, 5, 0)); l.Table().Add(session(9, 2, 5, 0)) }, every(6, 2)},
		{"sessions of many", func(l *ledger.Ledger) {
			for i, node := range []int{32, 6, 2, 9, 1} {
				l.Table().Add(session(9+i, node, 5, 0))
			}
		}, every(6, 1, 2, 6, 9, 32)},
		{"a closed project's session", func(l *ledger.Ledger) { l.Tree().Close(7) }, nil},
		{"what is closed under what is closed", func(l *ledger.Ledger) {
			for _, node := range []int{7, 6, 5} {
				l.Tree().Close(node)
			}
			l.Tree().Put(tree.Node{Id: 9, Parent: 6, Kind: api.Project, Limit: -1, Closed: true})
		}, nil},
		{"a project beside a closed one", func(l *ledger.Ledger) { l.Tree().Close(4) }, nil},
		{"a team beside a closed one", func(l *ledger.Ledger) {
			l.Tree().Put(tree.Node{Id: 9, Parent: 1, Kind: api.Team, Limit: -1, Closed: true})
			l.Tree().Put(tree.Node{Id: 10, Parent: 9, Kind: api.Project, Limit: -1, Closed: true})
		}, nil},
	})
}

// Several kinds at once, of several nodes: by Kind, then by Node.
func TestP27_1_Several(t *testing.T) {
	all(t, []spoiled{
		{"a team's session that holds", func(l *ledger.Ledger) { l.Table().Add(session(9, 2, 5, 4)) }, append(every(3, 1, 2), finding{6, 2})},
		{"held by the purse alone, and by the journal alone", func(l *ledger.Ledger) {
			l.Purse().Hold([]int{7, 1}, []int{-1, -1}, 5)
			moves(l, 5, heldOf(6), fundsOf(7))
		}, append(every(1, 6, 7), every(3, 1, 7)...)},
		{"used and held", func(l *ledger.Ledger) { l.Purse().Commit([]int{7, 6, 5}, 3, 1) }, append(every(3, 5, 6, 7), finding{4, 7})},
		{"all at one node", func(l *ledger.Ledger) {
			moves(l, 5, cash, heldOf(7))
			l.Sheet().Add(0, 7, 1, []line{{Blocks: 1, Price: 1}})
			l.Table().End(2)
		}, []finding{{1, 7}, {3, 5}, {3, 6}, {3, 7}, {4, 7}}},
	})
	l := laid(t)
	moves(l, 3, fundsOf(4), heldOf(2))
	l.Sheet().Add(0, 3, 1, []line{{Blocks: 1, Price: 1}})
	for i, node := range []int{20, 6, 20, 7, 6} {
		l.Table().Add(session(9+i, node, i, i))
	}
	want := []finding{{1, 2}, {1, 4}, {3, 5}, {3, 6}, {3, 7}, {4, 3}, {5, 6}, {5, 20}, {6, 6}, {6, 20}}
	finds(t, "nearly all kinds", at(t, l, 3), want...)
	want = slices.Insert(want, 6, finding{5, 3})
	want = slices.Insert(want, 8, finding{5, 7})
	finds(t, "nearly all kinds, and all are late", at(t, l, 6), want...)
}

// spoil lets a ledger's parts not agree in some way, by chance.
func spoil(r *rand.Rand, l *ledger.Ledger) {
	node, amount := 1+r.Intn(9), 1+r.Intn(5)
	switch r.Intn(12) {
	case 0:
		e, _ := entry.Make(1+r.Intn(6), amount, []int{node}, 1)
		l.Purse().Journal().Post(e)
	case 1:
		moves(l, amount, heldOf(node), fundsOf(10-node))
	case 2:
		l.Purse().Hold([]int{node}, []int{-1}, amount)
	case 3:
		l.Purse().Release([]int{node}, amount)
	case 4:
		l.Purse().Commit([]int{node}, amount, 1)
	case 5:
		l.Purse().Refund([]int{node}, amount, 1)
	case 6:
		l.Table().Add(session(l.Table().Last()+1, node, r.Intn(9), r.Intn(2)*amount))
	case 7:
		if ids := l.Table().Ids(); len(ids) > 0 {
			l.Table().Set(session(ids[r.Intn(len(ids))], node, r.Intn(9), 10*amount))
		}
	case 8:
		if ids := l.Table().Ids(); len(ids) > 0 {
			l.Table().End(ids[r.Intn(len(ids))])
		}
	case 9:
		l.Sheet().Add(r.Intn(2), node, amount, []line{{Blocks: amount, Price: r.Intn(3)}})
	case 10:
		l.Tree().Move([]int{3, 4, 7}[r.Intn(3)], []int{2, 6}[r.Intn(2)])
	case 11:
		if r.Intn(3) == 0 {
			l.Tree().Close(node)
		} else if r.Intn(5) == 0 {
			l.Purse().Roll([]int{node})
		}
	}
}

func TestP27_1_PartsByChance(t *testing.T) {
	seen := map[int]int{}
	for seed := range 400 {
		r := rand.New(rand.NewSource(int64(seed)))
		l := laid(t)
		for step := range 12 {
			spoil(r, l)
			if r.Intn(4) == 0 {
				l = at(t, l, r.Intn(10))
			}
			want := plain(l)
			finds(t, fmt.Sprintf("script %d, step %d", seed, step), l, want...)
			for _, f := range want {
				seen[f.Kind]++
			}
		}
		if t.Failed() {
			t.FailNow()
		}
	}
	for _, kind := range []int{audit.Balance, audit.Holding, audit.Using, audit.Late, audit.Path} {
		if seen[kind] < 1000 {
			t.Errorf("kind %d: only %d times", kind, seen[kind])
		}
	}
}

// Look asks alone: a ledger that is looked at answers as one that isn't.
func TestP27_1_NothingIsChanged(t *testing.T) {
	l, other := laid(t), laid(t)
	for i, r := range []request{
		{Kind: wire.Update, Session: 1, Number: 1, Items: []item{{Group: 1, Used: 4, Want: 8}}},
		{Kind: wire.Event, Number: 2, Node: 7, Group: 1, Units: 3},
		{Kind: wire.Refund, Of: 1},
		{Kind: wire.Roll, Carry: []int{1, 2, 3}},
		{Kind: wire.Bill, Node: 1},
		{Kind: wire.Terminate, Session: 1, Number: 2, Items: []item{{Group: 1, Used: 8}}},
		{Kind: wire.Balance, Node: 3},
	} {
		audit.Look(l)
		a, b := l.Do(r), other.Do(r)
		if a.Err != api.OK || fmt.Sprint(a) != fmt.Sprint(b) || dump(l) != dump(other) {
			t.Errorf("request %d: %+v, not %+v", i, a, b)
		}
	}
}

func TestP27_3_AnswersAreNew(t *testing.T) {
	l := laid(t)
	moves(l, 3, fundsOf(4), heldOf(2))
	l.Table().End(1)
	want := append(every(1, 2, 4), every(3, 1, 2, 3)...)
	before := dump(l)
	one, two := audit.Look(l), audit.Look(l)
	_ = append(one, finding{99, 99})
	clear(one[:cap(one)])
	if !slices.Equal(two, want) {
		t.Errorf("the second answer is %v now", two)
	}
	if got := audit.Look(l); !slices.Equal(got, want) || dump(l) != before {
		t.Errorf("the next answer is %v", got)
	}
}
