package period_test

import (
	"fmt"
	"math"
	"math/rand"
	"reflect"
	"slices"
	"testing"

	"purser/api"
	"purser/entry"
	"purser/funds"
	"purser/period"
)

const (
	most       = 1 << 53
	bound      = 1 << 60
	maxEntries = 16384
)

type account = funds.Account

// none are limits of so many nodes that have none.
func none(n int) []int { return slices.Repeat([]int{-1}, n) }

func fundsOf(node int) entry.Account   { return entry.Account{Kind: entry.Funds, Node: node} }
func heldOf(node int) entry.Account    { return entry.Account{Kind: entry.Held, Node: node} }
func expiredOf(node int) entry.Account { return entry.Account{Kind: entry.Expired, Node: node} }
func usageOf(node, group int) entry.Account {
	return entry.Account{Kind: entry.Usage, Node: node, Group: group}
}

// made answers the entry that is named.
func made(kind, amount int, path []int, group int) entry.Entry {
	e, err := entry.Make(kind, amount, path, group)
	if err != api.OK {
		panic(fmt.Sprint(kind, amount, path, group, err))
	}
	return e
}

// two answers an entry of two legs, the first one being ahead in the order of accounts.
func two(first, second entry.Account, amount int) entry.Entry {
	return entry.Entry{Kind: entry.Expire, Legs: []entry.Leg{{Account: first, Amount: amount}, {Account: second, Amount: -amount}}}
}

// state is all that a purse tells.
type state struct {
	accounts  [36]account
	available [36]int
	nodes     string
	open      int
	entries   []entry.Entry
	periods   []int
}

func told(p *period.Purse) state {
	s := state{nodes: fmt.Sprint(p.Nodes()), open: p.Journal().Period()}
	for i := range s.accounts {
		s.accounts[i], s.available[i] = p.Get(i-1), p.Available(i-1)
	}
	for i := range p.Journal().Len() {
		e, at, _ := p.Journal().At(i)
		s.entries = append(s.entries, e)
		s.periods = append(s.periods, at)
	}
	return s
}

// refuses holds that a call answers this error, and that the purse is as it was.
func refuses(t *testing.T, what string, p *period.Purse, call func() api.Errno, want api.Errno) {
	t.Helper()
	before := told(p)
	if got := call(); got != want {
		t.Errorf("%s: %d, not %d", what, got, want)
	}
	if !reflect.DeepEqual(told(p), before) {
		t.Errorf("%s: what is refused has changed the purse", what)
	}
}

// does holds that a call is done.
func does(t *testing.T, what string, err api.Errno) {
	t.Helper()
	if err != api.OK {
		t.Fatalf("%s: %d", what, err)
	}
}

// rolls answers a Roll's error, and holds that nothing stands beside it.
func rolls(t *testing.T, p *period.Purse, carry ...int) api.Errno {
	t.Helper()
	n, err := p.Roll(carry)
	if err != api.OK && n != 0 {
		t.Errorf("Roll(%v): %d, %d", carry, n, err)
	}
	return err
}

// agrees holds each account to the legs of all entries, gone through one by one.
func agrees(t *testing.T, p *period.Purse) {
	t.Helper()
	s := told(p)
	for node := 1; node <= 32; node++ {
		left, held, used := 0, 0, 0
		for i, e := range s.entries {
			for _, l := range e.Legs {
				switch {
				case l.Account == fundsOf(node):
					left -= l.Amount
				case l.Account == heldOf(node):
					held -= l.Amount
				case l.Account.Kind == entry.Usage && l.Account.Node == node && s.periods[i] == s.open:
					used -= l.Amount
				}
			}
		}
		if a := p.Get(node); p.Available(node) != left || a.Held != held || a.Used != used {
			t.Fatalf("node %d has %+v, but by the journal %d, %d, %d", node, a, left, held, used)
		}
	}
}

// restored answers the purse of another one's accounts and entries.
func restored(t *testing.T, p *period.Purse) *period.Purse {
	t.Helper()
	accounts := map[int]account{}
	for _, node := range p.Nodes() {
		accounts[node] = p.Get(node)
	}
	s := told(p)
	q, err := period.Restore(accounts, s.entries, s.periods, s.open)
	if err != api.OK {
		t.Fatalf("Restore: %d", err)
	}
	return q
}

// alone answers the purse of entries, in period 0, without accounts, and lets so many periods pass.
func alone(t *testing.T, l []entry.Entry, open int) *period.Purse {
	t.Helper()
	p, err := period.Restore(nil, l, make([]int, len(l)), open)
	if err != api.OK {
		t.Fatalf("Restore: %d", err)
	}
	return p
}

// upTo fills the journal up to so many entries, by a node that isn't there otherwise.
func upTo(t *testing.T, p *period.Purse, n int) {
	t.Helper()
	for p.Journal().Len() < n {
		does(t, "TopUp", p.TopUp(32, 1))
	}
}

func TestP15_1_Example(t *testing.T) {
	p := period.New()
	does(t, "TopUp", p.TopUp(1, 9))
	does(t, "Hold", p.Hold([]int{1}, none(1), 4))
	does(t, "Commit", p.Commit([]int{1}, 3, 2))
	if a := p.Get(1); p.Available(1) != 5 || a != (account{Topped: 9, Held: 1, Used: 3}) {
		t.Errorf("node 1 has %+v, %d", a, p.Available(1))
	}
	if n := p.Journal().Balance(usageOf(1, 2)); n != -3 {
		t.Errorf("Usage 1 of group 2 has %d", n)
	}
}

func TestP15_1_New(t *testing.T) {
	p := period.New()
	want := state{nodes: "[]"}
	if s := told(p); !reflect.DeepEqual(s, want) {
		t.Errorf("%+v", s)
	}
	if room, err := p.Room([]int{1, 2}, []int{-1, 5}); room != 0 || err != api.OK {
		t.Errorf("Room: %d, %d", room, err)
	}
}

func TestP15_1_Nil(t *testing.T) {
	var none *period.Purse
	for what, p := range map[string]*period.Purse{"nil": none, "one that wasn't made": new(period.Purse)} {
		for _, node := range []int{math.MinInt, 0, 1, 33} {
			path := []int{node}
			for call, err := range map[string]api.Errno{
				"TopUp": p.TopUp(node, 1), "Hold": p.Hold(path, []int{-1}, 1), "Release": p.Release(path, 1), "Commit": p.Commit(path, 1, 1),
				"Refund": p.Refund(path, 1, 1), "Roll": rolls(t, p), "Roll with carry": rolls(t, p, node),
			} {
				if err != api.ErrArg {
					t.Errorf("%s: %s: %d", what, call, err)
				}
			}
			if room, err := p.Room(path, []int{-1}); room != 0 || err != api.ErrArg {
				t.Errorf("%s: Room: %d, %d", what, room, err)
			}
			if a, n := p.Get(node), p.Available(node); a != (account{}) || n != 0 {
				t.Errorf("%s: %+v, %d", what, a, n)
			}
		}
		if len(p.Nodes()) != 0 || p.Journal() != nil {
			t.Errorf("%s: %v, %v", what, p.Nodes(), p.Journal())
		}
	}
}

func TestP15_1_TheBooksErrors(t *testing.T) {
	p := period.New()
	for node, amount := range []int{0, 100, 50, 100, most} {
		if node > 0 {
			does(t, "TopUp", p.TopUp(node, amount))
		}
	}
	path, three := []int{1, 2}, []int{3, 1, 2}
	does(t, "Hold", p.Hold([]int{1}, none(1), 30))
	does(t, "Hold", p.Hold(path, none(2), 20))
	does(t, "Commit", p.Commit([]int{1}, 25, 3))
	does(t, "Commit", p.Commit(path, 5, 3))
	for what, bad := range map[string][]int{
		"no node": nil, "4 nodes": {1, 2, 3, 4}, "a node twice": {1, 2, 1}, "node 0": {0}, "node 33": {1, 33}, "many": make([]int, 1000),
	} {
		refuses(t, what+": Hold", p, func() api.Errno { return p.Hold(bad, none(len(bad)), 1) }, api.ErrArg)
		refuses(t, what+": Release", p, func() api.Errno { return p.Release(bad, 1) }, api.ErrArg)
		refuses(t, what+": Commit", p, func() api.Errno { return p.Commit(bad, 1, 1) }, api.ErrArg)
		refuses(t, what+": Refund", p, func() api.Errno { return p.Refund(bad, 1, 1) }, api.ErrArg)
	}
	for _, amount := range []int{0, -1, most + 1, math.MinInt, math.MaxInt} {
		refuses(t, "TopUp", p, func() api.Errno { return p.TopUp(1, amount) }, api.ErrArg)
		refuses(t, "Hold", p, func() api.Errno { return p.Hold(path, none(2), amount) }, api.ErrArg)
		refuses(t, "Release", p, func() api.Errno { return p.Release(path, amount) }, api.ErrArg)
		refuses(t, "Commit", p, func() api.Errno { return p.Commit(path, amount, 1) }, api.ErrArg)
		refuses(t, "Refund", p, func() api.Errno { return p.Refund(path, amount, 1) }, api.ErrArg)
	}
	refuses(t, "TopUp of node 0", p, func() api.Errno { return p.TopUp(0, 1) }, api.ErrArg)
	refuses(t, "TopUp of node 33", p, func() api.Errno { return p.TopUp(33, 1) }, api.ErrArg)
	refuses(t, "TopUp above 2^53", p, func() api.Errno { return p.TopUp(4, 1) }, api.ErrOver)
	refuses(t, "limits of another length", p, func() api.Errno { return p.Hold(path, none(3), 1) }, api.ErrArg)
	refuses(t, "limit -2", p, func() api.Errno { return p.Hold(path, []int{-1, -2}, 1) }, api.ErrArg)
	refuses(t, "the last one has less", p, func() api.Errno { return p.Hold(path, none(2), 31) }, api.ErrCredit)
	refuses(t, "a limit ahead of credit", p, func() api.Errno { return p.Hold(path, []int{80, -1}, 31) }, api.ErrLimit)
	refuses(t, "held at one alone: Release", p, func() api.Errno { return p.Release(path, 16) }, api.ErrFalse)
	refuses(t, "held at one alone: Commit", p, func() api.Errno { return p.Commit(path, 16, 1) }, api.ErrFalse)
	refuses(t, "used at one alone: Refund", p, func() api.Errno { return p.Refund(path, 6, 1) }, api.ErrFalse)
	refuses(t, "held at no other: Release", p, func() api.Errno { return p.Release(three, 1) }, api.ErrFalse)
	if room, err := p.Room(path, none(2)); room != 30 || err != api.OK {
		t.Errorf("Room: %d, %d", room, err)
	}
	if room, err := p.Room(path, []int{-1, -2}); room != 0 || err != api.ErrArg {
		t.Errorf("Room by -2: %d, %d", room, err)
	}
	does(t, "Hold of all there is room for", p.Hold(path, none(2), 30))
	agrees(t, p)
}

func TestP15_1_GroupsThatMakeRefuses(t *testing.T) {
	p := period.New()
	path := []int{2, 1}
	does(t, "TopUp", p.TopUp(1, 100))
	does(t, "TopUp", p.TopUp(2, 100))
	does(t, "Hold", p.Hold(path, none(2), 50))
	does(t, "Commit", p.Commit(path, 20, 8))
	for _, group := range []int{0, 9, -1, math.MinInt, math.MaxInt} {
		refuses(t, "Commit", p, func() api.Errno { return p.Commit(path, 10, group) }, api.ErrArg)
		refuses(t, "Refund", p, func() api.Errno { return p.Refund(path, 10, group) }, api.ErrArg)
		// The book is asked first.
		refuses(t, "Commit of too much", p, func() api.Errno { return p.Commit(path, 31, group) }, api.ErrFalse)
		refuses(t, "Refund of too much", p, func() api.Errno { return p.Refund(path, 21, group) }, api.ErrFalse)
	}
	for _, group := range []int{1, 8} {
		does(t, "Commit", p.Commit(path, 10, group))
		does(t, "Refund", p.Refund(path, 10, group))
	}
	agrees(t, p)
}

func TestP15_1_AFullJournal(t *testing.T) {
	p := period.New()
	path := []int{2, 1}
	does(t, "TopUp", p.TopUp(1, 100))
	does(t, "TopUp", p.TopUp(2, most))
	does(t, "Hold", p.Hold(path, none(2), 50))
	does(t, "Commit", p.Commit(path, 20, 8))
	upTo(t, p, maxEntries-1)
	does(t, "the last one", p.Hold(path, none(2), 1))
	for _, c := range []struct {
		what string
		call func() api.Errno
		err  api.Errno
	}{
		{"TopUp", func() api.Errno { return p.TopUp(1, 5) }, api.ErrFull},
		{"Hold", func() api.Errno { return p.Hold(path, none(2), 5) }, api.ErrFull},
		{"Release", func() api.Errno { return p.Release(path, 5) }, api.ErrFull},
		{"Commit", func() api.Errno { return p.Commit(path, 5, 1) }, api.ErrFull},
		{"Refund", func() api.Errno { return p.Refund(path, 5, 1) }, api.ErrFull},
		{"Commit of group 9", func() api.Errno { return p.Commit(path, 5, 9) }, api.ErrArg},
		{"Refund of group 0", func() api.Errno { return p.Refund(path, 5, 0) }, api.ErrArg},
		{"TopUp above 2^53", func() api.Errno { return p.TopUp(2, 1) }, api.ErrOver},
		{"Hold of too much", func() api.Errno { return p.Hold(path, none(2), 51) }, api.ErrCredit},
		{"Hold above a limit", func() api.Errno { return p.Hold(path, []int{-1, 51}, 5) }, api.ErrLimit},
		{"Release of too much", func() api.Errno { return p.Release(path, 32) }, api.ErrFalse},
		{"Roll", func() api.Errno { return rolls(t, p) }, api.ErrFull},
		{"Roll with carry of all but one", func() api.Errno { return rolls(t, p, 2, 32) }, api.ErrFull},
	} {
		refuses(t, c.what, p, c.call, c.err)
	}
	// Of what is carried there is no entry, and so no room is needed.
	if n, err := p.Roll([]int{32, 2, 1}); n != 0 || err != api.OK || p.Journal().Period() != 1 || p.Get(1) != (account{Carried: 80, Held: 31}) {
		t.Errorf("Roll with carry: %d, %d, %+v", n, err, p.Get(1))
	}
	refuses(t, "Roll of the next period", p, func() api.Errno { return rolls(t, p, 1, 2) }, api.ErrFull)
}

func TestP15_1_RollOfAJournalWithLittleRoom(t *testing.T) {
	for left := range 4 {
		p := period.New()
		for node := 1; node <= 3; node++ {
			does(t, "TopUp", p.TopUp(node, 10*node))
		}
		does(t, "Hold", p.Hold([]int{3}, none(1), 30))
		upTo(t, p, maxEntries-left)
		// Of nodes 1, 2 and 32 something expires; of node 3 all is held.
		for _, c := range []struct {
			carry         []int
			needs, expire int
		}{{nil, 3, 30 + p.Get(32).Topped}, {[]int{32}, 2, 30}, {[]int{1, 32}, 1, 20}, {[]int{32, 1, 2, 3}, 0, 0}} {
			q := restored(t, p)
			if c.needs > left {
				refuses(t, fmt.Sprint("Roll with room for ", left), q, func() api.Errno { return rolls(t, q, c.carry...) }, api.ErrFull)
				continue
			}
			n, err := q.Roll(c.carry)
			if n != c.expire || err != api.OK || q.Journal().Len() != maxEntries-left+c.needs || q.Journal().Period() != 1 {
				t.Errorf("Roll(%v) with room for %d: %d, %d, %d entries", c.carry, left, n, err, q.Journal().Len())
			}
			agrees(t, q)
		}
	}
}

func TestP15_1_RollOfTheLastPeriod(t *testing.T) {
	p := period.New()
	for open := 1; open <= 31; open++ {
		does(t, "TopUp", p.TopUp(1, open))
		if n, err := p.Roll(nil); n != open || err != api.OK || p.Journal().Period() != open {
			t.Fatalf("Roll: %d, %d, period %d", n, err, p.Journal().Period())
		}
	}
	refuses(t, "Roll of nothing", p, func() api.Errno { return rolls(t, p) }, api.ErrFull)
	does(t, "TopUp", p.TopUp(1, 100))
	does(t, "TopUp", p.TopUp(2, 100))
	refuses(t, "Roll", p, func() api.Errno { return rolls(t, p) }, api.ErrFull)
	refuses(t, "Roll with carry", p, func() api.Errno { return rolls(t, p, 1, 2) }, api.ErrFull)
	agrees(t, p)
}

// tops gives each node as much as it can have.
func tops(t *testing.T, p *period.Purse) {
	t.Helper()
	for node := 1; node <= 32; node++ {
		does(t, "TopUp", p.TopUp(node, most))
	}
}

func TestP15_1_TopUpsThatPostRefuses(t *testing.T) {
	p := period.New()
	for range 3 {
		tops(t, p)
		if n, err := p.Roll(nil); n != 32*most || err != api.OK {
			t.Fatalf("Roll: %d, %d", n, err)
		}
	}
	for node := 1; node <= 31; node++ {
		does(t, "TopUp", p.TopUp(node, most))
	}
	does(t, "TopUp", p.TopUp(32, most-5))
	if n := p.Journal().Balance(entry.Account{Kind: entry.Cash}); n != bound-5 {
		t.Fatalf("Cash has %d", n)
	}
	does(t, "Roll", rolls(t, p))
	// Here no account has anything, and Cash has room for 5.
	refuses(t, "6", p, func() api.Errno { return p.TopUp(1, 6) }, api.ErrOver)
	refuses(t, "2^53", p, func() api.Errno { return p.TopUp(1, most) }, api.ErrOver)
	does(t, "5", p.TopUp(1, 5))
	refuses(t, "1", p, func() api.Errno { return p.TopUp(1, 1) }, api.ErrOver)
	refuses(t, "1 of another node", p, func() api.Errno { return p.TopUp(2, 1) }, api.ErrOver)
	does(t, "Hold", p.Hold([]int{1}, none(1), 5))
	agrees(t, p)
}

func TestP15_1_UsageThatPostRefuses(t *testing.T) {
	// In period 0 group 1's usage has come to the bounds: of node 1 below, of node 2 above.
	p := alone(t, slices.Repeat([]entry.Entry{two(usageOf(1, 1), usageOf(2, 1), -most)}, 128), 1)
	path := []int{3, 2, 1}
	for _, node := range path {
		does(t, "TopUp", p.TopUp(node, 100))
	}
	does(t, "Hold", p.Hold(path, none(3), 50))
	refuses(t, "Commit", p, func() api.Errno { return p.Commit(path, 5, 1) }, api.ErrOver)
	refuses(t, "Commit at node 1", p, func() api.Errno { return p.Commit([]int{1}, 1, 1) }, api.ErrOver)
	refuses(t, "Commit of group 9", p, func() api.Errno { return p.Commit(path, 5, 9) }, api.ErrArg)
	refuses(t, "Commit of too much", p, func() api.Errno { return p.Commit(path, 51, 1) }, api.ErrFalse)
	does(t, "Commit of group 2", p.Commit(path, 20, 2))
	refuses(t, "Refund", p, func() api.Errno { return p.Refund(path, 5, 1) }, api.ErrOver)
	refuses(t, "Refund at node 2", p, func() api.Errno { return p.Refund([]int{2}, 1, 1) }, api.ErrOver)
	does(t, "Commit at node 2", p.Commit([]int{2}, 7, 1))
	does(t, "Refund at node 2", p.Refund([]int{2}, 7, 1))
	refuses(t, "Refund of 1 more", p, func() api.Errno { return p.Refund([]int{2}, 1, 1) }, api.ErrOver)
	does(t, "Refund at node 1", p.Refund([]int{1}, 3, 1))
	does(t, "Commit at node 1", p.Commit([]int{1}, 3, 1))
	refuses(t, "Commit of 1 more", p, func() api.Errno { return p.Commit([]int{1}, 1, 1) }, api.ErrOver)
	agrees(t, p)
}

func TestP15_1_ExpiryThatPostRefuses(t *testing.T) {
	// Expired of node 2 has room for 5 more; that of node 1 has much.
	l := slices.Repeat([]entry.Entry{two(expiredOf(1), expiredOf(2), most)}, 127)
	l = append(l, two(expiredOf(1), expiredOf(2), most-5))
	for _, amount := range []int{5, 6, most} {
		p := alone(t, l, 0)
		for _, node := range []int{1, 2, 3} {
			does(t, "TopUp", p.TopUp(node, amount))
		}
		if amount > 5 {
			refuses(t, "Roll", p, func() api.Errno { return rolls(t, p) }, api.ErrOver)
			refuses(t, "Roll with carry of others", p, func() api.Errno { return rolls(t, p, 1, 3) }, api.ErrOver)
			if n, err := restored(t, p).Roll([]int{2}); n != 2*amount || err != api.OK {
				t.Errorf("Roll with carry: %d, %d", n, err)
			}
			does(t, "Hold", p.Hold([]int{2}, none(1), amount-5))
		}
		if n, err := p.Roll(nil); n != 2*amount+5 || err != api.OK || p.Journal().Balance(expiredOf(2)) != -bound {
			t.Errorf("Roll of what there is room for: %d, %d", n, err)
		}
		agrees(t, p)
	}
}

func TestP15_1_FullAheadOfOver(t *testing.T) {
	over := two(expiredOf(1), expiredOf(2), most)
	p := alone(t, slices.Repeat([]entry.Entry{over}, 128), 31)
	does(t, "TopUp", p.TopUp(2, 1))
	refuses(t, "no period more", p, func() api.Errno { return rolls(t, p) }, api.ErrFull)
	q := alone(t, slices.Repeat([]entry.Entry{over}, 128), 30)
	does(t, "TopUp", q.TopUp(2, 1))
	upTo(t, q, maxEntries-2)
	refuses(t, "room for both", q, func() api.Errno { return rolls(t, q) }, api.ErrOver)
	upTo(t, q, maxEntries-1)
	refuses(t, "room for one", q, func() api.Errno { return rolls(t, q) }, api.ErrFull)
	refuses(t, "room for the one", q, func() api.Errno { return rolls(t, q, 32) }, api.ErrOver)
}

func TestP15_1_Roll(t *testing.T) {
	p := period.New()
	for node, amount := range map[int]int{1: 100, 2: 100, 7: 10, 32: 30, 31: 5} {
		does(t, "TopUp", p.TopUp(node, amount))
	}
	path := []int{1, 2}
	does(t, "Hold", p.Hold(path, none(2), 40))
	does(t, "Commit", p.Commit(path, 15, 3))
	does(t, "Hold", p.Hold([]int{31}, none(1), 5))
	before := p.Journal().Len()
	// A carry may name nodes twice, those without an account, and what is no node.
	n, err := p.Roll([]int{33, 2, 9, 2, 0, -1, math.MinInt, math.MaxInt, 32})
	if n != 60+10 || err != api.OK || p.Journal().Period() != 1 {
		t.Fatalf("Roll: %d, %d", n, err)
	}
	for node, want := range map[int]account{1: {Carried: 25, Held: 25}, 2: {Carried: 85, Held: 25}, 7: {}, 9: {}, 31: {Carried: 5, Held: 5}, 32: {Carried: 30}} {
		if a := p.Get(node); a != want {
			t.Errorf("node %d has %+v, not %+v", node, a, want)
		}
	}
	s := told(p)
	want := []entry.Entry{made(entry.Expire, 60, []int{1}, 0), made(entry.Expire, 10, []int{7}, 0)}
	if !reflect.DeepEqual(s.entries[before:], want) || !slices.Equal(s.periods[before:], []int{0, 0}) || s.nodes != "[1 2 31 32]" {
		t.Errorf("%v, %v, %s", s.entries[before:], s.periods[before:], s.nodes)
	}
	refuses(t, "Refund of the last period's", p, func() api.Errno { return p.Refund(path, 1, 3) }, api.ErrFalse)
	does(t, "Commit of what was held", p.Commit(path, 25, 4))
	agrees(t, p)
	if n, err := p.Roll(nil); n != 60+30 || err != api.OK || p.Journal().Len() != before+2+1+2 {
		t.Errorf("Roll: %d, %d, %d entries", n, err, p.Journal().Len())
	}
	if n, err := p.Roll([]int{1}); n != 0 || err != api.OK || p.Journal().Len() != before+5 || p.Journal().Period() != 3 {
		t.Errorf("Roll: %d, %d, %d entries", n, err, p.Journal().Len())
	}
	agrees(t, p)
}

// script does the same by chance to any purse that is told the same.
func script(t *testing.T, r *rand.Rand, p *period.Purse, steps int) []string {
	t.Helper()
	var answers []string
	for range steps {
		path := [][]int{{1}, {1, 2}, {3, 1, 2}, {32}, {32, 1}, {4, 32, 2}, nil, {2, 2}, {33}}[r.Intn(7+r.Intn(3))]
		limits := none(len(path))
		if len(path) > 0 {
			limits[r.Intn(len(path))] = []int{-1, 150, 400, 0, -2}[r.Intn(5)]
		}
		amount, group := r.Intn(60), 1+r.Intn(8)
		if r.Intn(20) == 0 {
			group = 9
		}
		n, err, what := 0, api.OK, ""
		switch r.Intn(10) {
		case 0, 1:
			what, err = "TopUp", p.TopUp(1+r.Intn(4)+28*r.Intn(2), 10*amount)
		case 2, 3, 4:
			what, err = "Hold", p.Hold(path, limits, amount)
		case 5:
			what, err = "Release", p.Release(path, amount)
		case 6, 7:
			what, err = "Commit", p.Commit(path, amount, group)
		case 8:
			what, err = "Refund", p.Refund(path, amount, group)
		default:
			if r.Intn(4) > 0 {
				continue
			}
			carry := r.Perm(34)[:r.Intn(34)]
			n, err = p.Roll(carry)
			what = "Roll"
		}
		answers = append(answers, fmt.Sprint(what, " ", path, limits, amount, group, n, err))
		agrees(t, p)
	}
	return answers
}

func TestP15_1_AgainstTheBook(t *testing.T) {
	seen := map[string]int{}
	for seed := range 40 {
		r := rand.New(rand.NewSource(int64(seed)))
		p := period.New()
		book := funds.New()
		var entries []entry.Entry
		for range 150 {
			path := [][]int{{1}, {1, 2}, {3, 1, 2}, {32}, {32, 1}, {4, 32, 2}, nil, {2, 2}, {33}}[r.Intn(7+r.Intn(3))]
			limits := none(len(path))
			if len(path) > 0 {
				limits[0] = []int{-1, 150, 400, -2}[r.Intn(4)]
			}
			amount, group, kind := r.Intn(60), r.Intn(10), 1+r.Intn(6)
			if kind == entry.TopUp {
				path, amount = []int{1 + r.Intn(4)}, 5*amount
			}
			// The book's is asked of a copy, so that what Make refuses leaves the book as it was.
			next := copied(book)
			var err, want api.Errno
			switch kind {
			case entry.TopUp:
				want, err = next.TopUp(path[0], amount), p.TopUp(path[0], amount)
			case entry.Hold:
				want, err = next.Hold(path, limits, amount), p.Hold(path, limits, amount)
			case entry.Release:
				want, err = next.Release(path, amount), p.Release(path, amount)
			case entry.Commit:
				want, err = next.Commit(path, amount), p.Commit(path, amount, group)
			case entry.Refund:
				want, err = next.Refund(path, amount), p.Refund(path, amount, group)
			default:
				continue
			}
			e := entry.Entry{}
			if want == api.OK {
				e, want = entry.Make(kind, amount, path, group)
			}
			if want == api.OK {
				book = next
				entries = append(entries, e)
			}
			if err != want {
				t.Fatalf("seed %d: kind %d of %d at %v by %v, group %d: %d, not %d", seed, kind, amount, path, limits, group, err, want)
			}
			seen[fmt.Sprint(kind, err)]++
			if s := told(p); !slices.EqualFunc(s.entries, entries, same) || s.nodes != fmt.Sprint(book.Nodes()) {
				t.Fatalf("seed %d: %v, %s, not %v, %v", seed, s.entries, s.nodes, entries, book.Nodes())
			}
			for node := range 34 {
				if p.Get(node) != book.Get(node) || p.Available(node) != book.Available(node) {
					t.Fatalf("seed %d: node %d has %+v, not %+v", seed, node, p.Get(node), book.Get(node))
				}
			}
			room, err := p.Room(path, limits)
			if n, want := book.Room(path, limits); room != n || err != want {
				t.Fatalf("seed %d: Room: %d, %d, not %d, %d", seed, room, err, n, want)
			}
		}
	}
	for kind := entry.TopUp; kind <= entry.Refund; kind++ {
		for _, err := range []api.Errno{api.OK, api.ErrArg} {
			if kind != entry.Expire && seen[fmt.Sprint(kind, err)] == 0 {
				t.Errorf("no entry of kind %d came to %d", kind, err)
			}
		}
	}
}

func same(a, b entry.Entry) bool { return a.Kind == b.Kind && slices.Equal(a.Legs, b.Legs) }

func copied(b *funds.Book) *funds.Book {
	c := funds.New()
	for _, node := range b.Nodes() {
		c.Set(node, b.Get(node))
	}
	return c
}

func TestP15_1_Restore(t *testing.T) {
	for seed := range 20 {
		p := period.New()
		script(t, rand.New(rand.NewSource(int64(seed))), p, 80)
		q := restored(t, p)
		if a, b := told(p), told(q); !reflect.DeepEqual(a, b) {
			t.Fatalf("seed %d: %+v, not %+v", seed, b, a)
		}
		// From then on both answer the same.
		one := script(t, rand.New(rand.NewSource(int64(100+seed))), p, 80)
		two := script(t, rand.New(rand.NewSource(int64(100+seed))), q, 80)
		if !slices.Equal(one, two) || !reflect.DeepEqual(told(p), told(q)) {
			t.Fatalf("seed %d: what was restored answers otherwise", seed)
		}
	}
}

func TestP15_1_RestoreOfNothing(t *testing.T) {
	for _, open := range []int{0, 1, 31} {
		for _, accounts := range []map[int]account{nil, {}, {1: {}, 32: {}}} {
			p, err := period.Restore(accounts, nil, nil, open)
			if want := (state{nodes: "[]", open: open}); err != api.OK || !reflect.DeepEqual(told(p), want) {
				t.Errorf("Restore of nothing, open %d: %d, %+v", open, err, told(p))
			}
		}
	}
	p := alone(t, nil, 31)
	refuses(t, "Roll of the last period", p, func() api.Errno { return rolls(t, p) }, api.ErrFull)
}

// deny holds that Restore answers this error, and no purse.
func deny(t *testing.T, what string, accounts map[int]account, l []entry.Entry, periods []int, open int, want api.Errno) {
	t.Helper()
	if p, err := period.Restore(accounts, l, periods, open); p != nil || err != want {
		t.Errorf("%s: %v, %d, not %d", what, p != nil, err, want)
	}
}

func TestP15_1_RestoreRefusesLists(t *testing.T) {
	accounts := map[int]account{1: {Carried: 5, Topped: 4, Held: 2}}
	l := []entry.Entry{made(entry.TopUp, 5, []int{1}, 0), made(entry.Hold, 2, []int{1}, 0), made(entry.TopUp, 4, []int{1}, 0)}
	for _, c := range []struct {
		what    string
		periods []int
		open    int
		err     api.Errno
	}{
		{"all in one", []int{0, 0, 0}, 0, api.OK},
		{"rising", []int{0, 1, 2}, 2, api.OK},
		{"rising late", []int{2, 3, 3}, 5, api.OK},
		{"the last period", []int{0, 31, 31}, 31, api.OK},
		{"one more", []int{0, 31, 31}, 32, api.ErrArg},
		{"open is the greatest", []int{0, 0, 0}, math.MaxInt, api.ErrArg},
		{"open is -1", []int{0, 0, 0}, -1, api.ErrArg},
		{"all is -1", []int{-1, -1, -1}, -1, api.ErrArg},
		{"open is the least", []int{0, 0, 0}, math.MinInt, api.ErrArg},
		{"too few", []int{0, 0}, 0, api.ErrArg},
		{"too many", []int{0, 0, 0, 0}, 0, api.ErrArg},
		{"none", nil, 0, api.ErrArg},
		{"falling", []int{0, 1, 0}, 1, api.ErrArg},
		{"falling at first", []int{1, 0, 1}, 1, api.ErrArg},
		{"below 0", []int{-1, 0, 0}, 0, api.ErrArg},
		{"the least", []int{math.MinInt, 0, 0}, 0, api.ErrArg},
		{"above open", []int{0, 1, 2}, 1, api.ErrArg},
		{"above open, and below 32", []int{31, 31, 31}, 30, api.ErrArg},
		{"32", []int{0, 0, 32}, 31, api.ErrArg},
	} {
		if c.err != api.OK {
			deny(t, c.what, accounts, l, c.periods, c.open, c.err)
			continue
		}
		p, err := period.Restore(accounts, l, c.periods, c.open)
		if err != api.OK {
			t.Errorf("%s: %d", c.what, err)
			continue
		}
		s := told(p)
		if !slices.EqualFunc(s.entries, l, same) || !slices.Equal(s.periods, c.periods) || s.open != c.open || p.Get(1) != accounts[1] {
			t.Errorf("%s: %+v", c.what, s)
		}
	}
	deny(t, "periods without entries", nil, nil, []int{0}, 0, api.ErrArg)
	deny(t, "open -1 of nothing", nil, nil, nil, -1, api.ErrArg)
	deny(t, "open 32 of nothing", nil, nil, nil, 32, api.ErrArg)
}

func TestP15_1_RestoreRefusesAccounts(t *testing.T) {
	l := []entry.Entry{made(entry.TopUp, 5, []int{1}, 0)}
	for what, accounts := range map[string]map[int]account{
		"node 0": {0: {}, 1: {Topped: 5}}, "node 33": {1: {Topped: 5}, 33: {}}, "node -1": {1: {Topped: 5}, -1: {Topped: 1}}, "the least node": {math.MinInt: {}},
		"below nought": {1: {Topped: 6, Held: -1}}, "nothing available": {1: {Topped: 5, Used: 6}}, "above 2^53": {1: {Topped: most, Carried: 1}},
		"another one": {1: {Topped: 5}, 2: {Expired: 1}},
	} {
		deny(t, what, accounts, l, []int{0}, 0, api.ErrArg)
		deny(t, what+", and an entry that is none", accounts, []entry.Entry{{}}, []int{0}, 0, api.ErrArg)
	}
}

func TestP15_1_RestoreRefusesEntries(t *testing.T) {
	right := made(entry.TopUp, 5, []int{1}, 0)
	accounts := map[int]account{1: {Topped: 5}}
	big := two(fundsOf(1), heldOf(1), most+1)
	order := entry.Entry{Kind: 1, Legs: []entry.Leg{{Account: heldOf(1), Amount: 1}, {Account: fundsOf(1), Amount: -1}}}
	uneven := entry.Entry{Kind: 1, Legs: []entry.Leg{{Account: fundsOf(1), Amount: 1}, {Account: heldOf(1), Amount: -2}}}
	for _, c := range []struct {
		what string
		e    entry.Entry
		err  api.Errno
	}{
		{"kind", entry.Entry{Kind: 7, Legs: right.Legs}, api.ErrKind},
		{"no legs", entry.Entry{Kind: 1}, api.ErrArg},
		{"account", two(fundsOf(1), heldOf(33), 1), api.ErrArg},
		{"amount", big, api.ErrBig},
		{"order", order, api.ErrOrder},
		{"sum", uneven, api.ErrFalse},
	} {
		deny(t, c.what, accounts, []entry.Entry{right, c.e}, []int{0, 0}, 0, c.err)
		deny(t, c.what+" of the first one", nil, []entry.Entry{c.e, {}}, []int{0, 1}, 1, c.err)
		// An account that isn't the journal's is looked at last, lists and accounts first.
		deny(t, c.what+", and the account", map[int]account{1: {Topped: 6}}, []entry.Entry{right, c.e}, []int{0, 0}, 0, c.err)
		deny(t, c.what+", and the periods", accounts, []entry.Entry{right, c.e}, []int{1, 0}, 1, api.ErrArg)
		deny(t, c.what+", and open", accounts, []entry.Entry{right, c.e}, []int{0, 0}, 32, api.ErrArg)
	}
	deny(t, "big ahead of order", nil, []entry.Entry{right, big, order}, []int{0, 0, 0}, 0, api.ErrBig)
	deny(t, "order ahead of big", nil, []entry.Entry{right, order, big}, []int{0, 0, 0}, 0, api.ErrOrder)
}

func TestP15_1_RestoreOfAsMuchAsAJournalTakes(t *testing.T) {
	one := two(expiredOf(1), expiredOf(2), 1)
	l := slices.Repeat([]entry.Entry{one}, maxEntries)
	periods := make([]int, maxEntries+1)
	periods[maxEntries] = 3
	p, err := period.Restore(nil, l, periods[:maxEntries], 3)
	if err != api.OK || p.Journal().Len() != maxEntries || p.Journal().Period() != 3 {
		t.Errorf("as many as may be: %d", err)
	}
	deny(t, "one more", nil, append(l, one), periods, 3, api.ErrFull)
	deny(t, "one more, that is none", nil, append(l, entry.Entry{}), periods, 3, api.ErrKind)
	great := two(expiredOf(1), expiredOf(2), most)
	deny(t, "a balance above 2^60", nil, slices.Repeat([]entry.Entry{great}, 129), make([]int, 129), 0, api.ErrOver)
	deny(t, "over periods", nil, slices.Repeat([]entry.Entry{great}, 129), append(make([]int, 100), slices.Repeat([]int{1}, 29)...), 1, api.ErrOver)
}

func TestP15_1_RestoreOfAccountsThatArentTheJournals(t *testing.T) {
	path := []int{32, 1}
	l := []entry.Entry{
		made(entry.TopUp, 100, []int{1}, 0), made(entry.TopUp, 90, []int{32}, 0), made(entry.Hold, 50, path, 0), made(entry.Commit, 30, path, 1),
		made(entry.Commit, 10, path, 8), made(entry.Refund, 4, path, 1),
	}
	periods := []int{0, 0, 0, 0, 1, 1}
	// In period 1 6 are used; 30 were in period 0.
	right := map[int]account{1: {Carried: 70, Used: 6, Held: 10}, 32: {Carried: 50, Topped: 10, Used: 6, Held: 10}}
	if _, err := period.Restore(right, l, periods, 1); err != api.OK {
		t.Fatalf("Restore: %d", err)
	}
	for what, change := range map[string]account{
		"more available": {Topped: 1}, "less available": {Topped: -1}, "less by what expired": {Expired: 1}, "more held": {Held: 1, Topped: 1}, "less held": {Held: -1, Topped: -1},
		"held, not available": {Held: 1}, "more used": {Used: 1, Topped: 1}, "less used": {Used: -1, Topped: -1}, "used, not available": {Used: 1}, "not held, but used": {Held: -1, Used: 1},
		"used in all periods": {Used: 30, Topped: 30},
	} {
		for _, node := range path {
			accounts := map[int]account{1: right[1], 32: right[32]}
			a := accounts[node]
			a.Carried += change.Topped
			a.Expired += change.Expired
			a.Held += change.Held
			a.Used += change.Used
			accounts[node] = a
			if err := funds.New().Set(1, a); err != api.OK {
				t.Fatalf("%s: it is no account", what)
			}
			deny(t, what, accounts, l, periods, 1, api.ErrFalse)
		}
	}
	deny(t, "one is missing", map[int]account{1: right[1]}, l, periods, 1, api.ErrFalse)
	deny(t, "all are missing", nil, l, periods, 1, api.ErrFalse)
	deny(t, "one more", map[int]account{1: right[1], 32: right[32], 2: {Carried: 1}}, l, periods, 1, api.ErrFalse)
	deny(t, "a later period", right, l, periods, 2, api.ErrFalse)
	deny(t, "another period", right, l, []int{0, 0, 0, 1, 1, 1}, 1, api.ErrFalse)
	deny(t, "one is missing that is used alone", nil, []entry.Entry{two(entry.Account{Kind: entry.Cash}, usageOf(2, 2), 5)}, []int{0}, 0, api.ErrFalse)
	rolled := map[int]account{1: {Carried: 64, Held: 10}, 32: {Carried: 54, Held: 10}}
	if _, err := period.Restore(rolled, l, periods, 2); err != api.OK {
		t.Errorf("in a later period: %d", err)
	}
}

// swing answers entries that move the Usage of node 1's groups by so many times 2^53 each.
func swing(times [8]int) []entry.Entry {
	var l []entry.Entry
	for group, n := range times {
		amount := most
		if n < 0 {
			n, amount = -n, -most
		}
		// Each group has another account against it, so that none of these goes beyond its bounds first.
		l = append(l, slices.Repeat([]entry.Entry{two(usageOf(1, group+1), expiredOf(group+1), amount)}, n)...)
	}
	return l
}

func TestP15_2_SumsOfGroupsThatLeaveTheInts(t *testing.T) {
	up, down := 256, -256
	for _, c := range []struct {
		what      string
		now       [8]int // what each group is moved by in the open period, from one of its bounds to the other
		more, err int    // and the first group by so much more
	}{
		{"8 times 2^61, that come round to nought", [8]int{up, up, up, up, up, up, up, up}, 0, 1},
		{"8 times -2^61", [8]int{down, down, down, down, down, down, down, down}, 0, 1},
		{"less than 2^64 by 5", [8]int{up, up, up, up, up, up, up, up}, -5, 1},
		{"4 times 2^61", [8]int{up, up, up, up}, 0, 1},
		{"up, then down", [8]int{up, up, up, up, down, down, down, down}, 0, 0},
		{"down, then up", [8]int{down, down, down, down, up, up, up, up}, 0, 0},
		{"up, then down, by 5", [8]int{up, up, up, up, down, down, down, down}, -5, 0},
		{"up, then down, by 2^32", [8]int{up, up, up, up, down, down, down, down}, -1 << 32, 0},
		{"up, then down, by 2^53", [8]int{up, up, up, up, down, down, down, down}, -most, 0},
	} {
		ahead := [8]int{}
		for i, n := range c.now {
			ahead[i] = -n / 2
		}
		l := swing(ahead)
		periods := make([]int, len(l))
		l = append(l, swing(c.now)...)
		if c.more != 0 {
			l = append(l, two(usageOf(1, 1), expiredOf(9), c.more))
		}
		for len(periods) < len(l) {
			periods = append(periods, 1)
		}
		used := func(n int) map[int]account { return map[int]account{1: {Carried: n, Used: n}} }
		if c.err != 0 {
			deny(t, c.what, used(-c.more), l, periods, 1, api.ErrFalse)
			deny(t, c.what+", without an account", nil, l, periods, 1, api.ErrFalse)
			continue
		}
		p, err := period.Restore(used(-c.more), l, periods, 1)
		if err != api.OK || p.Get(1).Used != -c.more {
			t.Errorf("%s: %d", c.what, err)
		}
		for _, n := range []int{1, 5, 1 << 31, 1 << 32, 1<<32 + 5, 1 << 33, most - 1, most} {
			if n != -c.more {
				deny(t, c.what+", but not by that", used(n), l, periods, 1, api.ErrFalse)
			}
		}
	}
	deny(t, "used below nought", nil, []entry.Entry{two(usageOf(1, 1), expiredOf(1), 5)}, []int{0}, 0, api.ErrFalse)
	deny(t, "used below nought by 2^32", nil, []entry.Entry{two(usageOf(1, 1), expiredOf(1), 1<<32)}, []int{0}, 0, api.ErrFalse)
}

func TestP15_2_TheAccountsAreTheJournals(t *testing.T) {
	rolls := 0
	for seed := range 60 {
		p := period.New()
		// Behind each step the script asks this.
		script(t, rand.New(rand.NewSource(int64(2000+seed))), p, 120)
		rolls += p.Journal().Period()
		for open := range p.Journal().Period() + 1 {
			if debits, credits, err := p.Journal().Trial(open); debits != credits || err != api.OK {
				t.Fatalf("seed %d: Trial(%d): %d, %d, %d", seed, open, debits, credits, err)
			}
		}
	}
	if rolls < 60 {
		t.Errorf("%d periods alone", rolls)
	}
}

func TestP15_3_TheEntries(t *testing.T) {
	p := period.New()
	path := []int{32, 1, 7}
	// They are done in this order, each with one entry.
	for i, c := range []struct {
		what string
		err  api.Errno
		want entry.Entry
	}{
		{"TopUp 1", p.TopUp(1, 100), made(entry.TopUp, 100, []int{1}, 0)},
		{"TopUp 7", p.TopUp(7, 50), made(entry.TopUp, 50, []int{7}, 0)},
		{"TopUp 32", p.TopUp(32, most), made(entry.TopUp, most, []int{32}, 0)},
		{"Hold", p.Hold(path, []int{-1, 60, most}, 40), made(entry.Hold, 40, path, 0)},
		{"Hold of one", p.Hold([]int{7}, []int{-1}, 1), made(entry.Hold, 1, []int{7}, 0)},
		{"Release", p.Release(path, 3), made(entry.Release, 3, path, 0)},
		{"Commit", p.Commit(path, 30, 8), made(entry.Commit, 30, path, 8)},
		{"Commit of one", p.Commit([]int{1}, 2, 1), made(entry.Commit, 2, []int{1}, 1)},
		{"Refund", p.Refund(path, 11, 8), made(entry.Refund, 11, path, 8)},
		{"Refund of another group", p.Refund([]int{1}, 4, 5), made(entry.Refund, 4, []int{1}, 5)},
	} {
		if c.err != api.OK {
			t.Errorf("%s: %d", c.what, c.err)
		}
		if e, at, err := p.Journal().At(i); !same(e, c.want) || at != 0 || err != api.OK {
			t.Errorf("%s: %v, %d, %d, not %v", c.what, e, at, err, c.want)
		}
	}
	if n := p.Journal().Len(); n != 10 {
		t.Errorf("%d entries", n)
	}
	agrees(t, p)
}

func TestP15_4_NothingIsChangedOrKept(t *testing.T) {
	p := period.New()
	for _, node := range []int{1, 2, 3} {
		does(t, "TopUp", p.TopUp(node, 100))
	}
	path, limits, carry := []int{2, 1, 77}, []int{-1, 90, 77}, []int{2, 3, 77}
	does(t, "Hold", p.Hold(path[:2], limits[:2], 30))
	does(t, "Release", p.Release(path[:2], 5))
	does(t, "Commit", p.Commit(path[:2], 10, 1))
	does(t, "Refund", p.Refund(path[:2], 5, 1))
	p.Room(path[:2], limits[:2])
	does(t, "Roll", rolls(t, p, carry[:2]...))
	if !slices.Equal(path, []int{2, 1, 77}) || !slices.Equal(limits, []int{-1, 90, 77}) || !slices.Equal(carry, []int{2, 3, 77}) {
		t.Errorf("the arguments are %v, %v, %v now", path, limits, carry)
	}
	before := told(p)
	clear(path)
	clear(limits)
	clear(carry)
	one, two := p.Nodes(), p.Nodes()
	clear(one[:cap(one)])
	if !slices.Equal(two, []int{1, 2, 3}) || !reflect.DeepEqual(told(p), before) {
		t.Errorf("Nodes are %v now, and the purse is %+v", two, told(p))
	}
	other := restored(t, p)
	does(t, "TopUp", other.TopUp(1, 5))
	does(t, "Roll", rolls(t, other))
	if !reflect.DeepEqual(told(p), before) {
		t.Errorf("one purse has changed with another one")
	}
	if p.Journal() != p.Journal() {
		t.Errorf("a purse has more than one journal")
	}
}

func TestP15_4_RestoreKeepsNothing(t *testing.T) {
	accounts := map[int]account{1: {Topped: 5, Held: 2}}
	l := []entry.Entry{made(entry.TopUp, 5, []int{1}, 0), made(entry.Hold, 2, []int{1}, 0), {Kind: 77}}
	periods := []int{0, 0, 77}
	p, err := period.Restore(accounts, l[:2], periods[:2], 0)
	does(t, "Restore", err)
	want := []entry.Entry{made(entry.TopUp, 5, []int{1}, 0), made(entry.Hold, 2, []int{1}, 0), {Kind: 77}}
	if len(accounts) != 1 || accounts[1] != (account{Topped: 5, Held: 2}) || !slices.EqualFunc(l, want, same) || !slices.Equal(periods, []int{0, 0, 77}) {
		t.Errorf("the arguments are %v, %v, %v now", accounts, l, periods)
	}
	before := told(p)
	accounts[1] = account{Topped: 9}
	accounts[2] = account{Topped: 9}
	clear(l[0].Legs)
	clear(l)
	clear(periods)
	if !reflect.DeepEqual(told(p), before) {
		t.Errorf("the purse is %+v now", told(p))
	}
}
