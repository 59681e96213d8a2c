package replay_test

import (
	"fmt"
	"math/big"
	"slices"
	"testing"

	"purser/api"
	"purser/entry"
	"purser/funds"
	"purser/journal"
	"purser/replay"
)

const most = 1 << 53

type (
	account = funds.Account
	row     = replay.Row
)

func fundsOf(node int) entry.Account   { return entry.Account{Kind: entry.Funds, Node: node} }
func heldOf(node int) entry.Account    { return entry.Account{Kind: entry.Held, Node: node} }
func expiredOf(node int) entry.Account { return entry.Account{Kind: entry.Expired, Node: node} }
func usageOf(node, group int) entry.Account {
	return entry.Account{Kind: entry.Usage, Node: node, Group: group}
}

var cash = entry.Account{Kind: entry.Cash}

// two answers an entry of a kind, that credits one account, and debits the other.
func two(kind, amount int, credit, debit entry.Account) entry.Entry {
	l := []entry.Leg{{Account: credit, Amount: -amount}, {Account: debit, Amount: amount}}
	slices.SortFunc(l, func(a, b entry.Leg) int {
		return 1000*(a.Account.Kind-b.Account.Kind) + 10*(a.Account.Node-b.Account.Node) + a.Account.Group - b.Account.Group
	})
	return entry.Entry{Kind: kind, Legs: l}
}

// made answers the entry that is named.
func made(kind, amount, group int, path ...int) entry.Entry {
	e, err := entry.Make(kind, amount, path, group)
	if err != api.OK {
		panic(fmt.Sprint(kind, amount, path, group, err))
	}
	return e
}

// post posts entries.
func post(t *testing.T, j *journal.Journal, l ...entry.Entry) {
	t.Helper()
	for _, e := range l {
		if _, err := j.Post(e); err != api.OK {
			t.Fatalf("Post(%v): %d", e, err)
		}
	}
}

// of answers a journal of entries, in period 0.
func of(t *testing.T, l ...entry.Entry) *journal.Journal {
	t.Helper()
	j := journal.New()
	post(t, j, l...)
	return j
}

// wide are the parts of an account, however great they are.
type wide struct {
	topped, expired, used, held, left *big.Int
}

// legsOf answers the opposite of what a journal's first entries moved the accounts that are asked for.
func legsOf(j *journal.Journal, n int, asked func(e entry.Entry, period int, a entry.Account) bool) *big.Int {
	sum := new(big.Int)
	for i := range n {
		e, period, _ := j.At(i)
		for _, l := range e.Legs {
			if asked(e, period, l.Account) {
				sum.Sub(sum, big.NewInt(int64(l.Amount)))
			}
		}
	}
	return sum
}

// reckon answers the parts of a node's account, by going through all entries for each of them.
func reckon(j *journal.Journal, n, open, node int) wide {
	return wide{
		topped: legsOf(j, n, func(e entry.Entry, p int, a entry.Account) bool {
			return e.Kind == entry.TopUp && p == open && a == fundsOf(node)
		}),
		expired: legsOf(j, n, func(_ entry.Entry, p int, a entry.Account) bool { return p == open && a == expiredOf(node) }),
		used: legsOf(j, n, func(_ entry.Entry, p int, a entry.Account) bool {
			return p == open && a.Kind == entry.Usage && a.Node == node
		}),
		held: legsOf(j, n, func(_ entry.Entry, _ int, a entry.Account) bool { return a == heldOf(node) }),
		left: legsOf(j, n, func(_ entry.Entry, _ int, a entry.Account) bool { return a == fundsOf(node) }),
	}
}

// account answers the account of such parts, if it is one: the limits are told here once more.
func (w wide) account() (account, bool) {
	carried := new(big.Int).Sub(w.left, w.topped)
	for _, n := range []*big.Int{w.expired, w.used, w.held} {
		carried.Add(carried, n)
	}
	come := new(big.Int).Add(w.topped, carried)
	for _, n := range []*big.Int{w.topped, carried, w.expired, w.used, w.held, w.left, come} {
		if n.Sign() < 0 || n.Cmp(big.NewInt(most)) > 0 {
			return account{}, false
		}
	}
	number := func(n *big.Int) int { return int(n.Int64()) }
	return account{Topped: number(w.topped), Carried: number(carried), Expired: number(w.expired), Used: number(w.used), Held: number(w.held)}, true
}

// plain answers what Rows and Upto ought to tell of a journal's first entries.
func plain(j *journal.Journal, n, open int) ([]row, api.Errno) {
	var l []row
	for node := 1; node <= 32; node++ {
		a, ok := reckon(j, n, open, node).account()
		if !ok {
			return nil, api.ErrFalse
		}
		if a != (account{}) {
			l = append(l, row{Node: node, Account: a})
		}
	}
	return l, api.OK
}

// lastPeriod answers the period of the last of the first entries.
func lastPeriod(j *journal.Journal, n int) int {
	if n == 0 {
		return 0
	}
	_, p, _ := j.At(n - 1)
	return p
}

// told is all that a journal tells.
func told(j *journal.Journal) string {
	s := fmt.Sprint(j.Len(), j.Period(), j.Accounts())
	for i := range j.Len() {
		e, p, err := j.At(i)
		s += fmt.Sprint(e, p, err)
	}
	for _, a := range j.Accounts() {
		s += fmt.Sprint(j.Balance(a), j.Moved(a, j.Period()))
	}
	return s
}

// rowsAre holds that Rows tells just this, and that Upto of all entries does, if the open period has the last one.
func rowsAre(t *testing.T, what string, j *journal.Journal, want []row, wantErr api.Errno) {
	t.Helper()
	if got, err := replay.Rows(j); !slices.Equal(got, want) || err != wantErr {
		t.Errorf("%s: Rows: %v, %d, not %v, %d", what, got, err, want, wantErr)
	}
	if j.Len() > 0 && lastPeriod(j, j.Len()) == j.Period() {
		uptoIs(t, what, j, j.Len(), want, wantErr)
	}
}

// uptoIs holds that Upto tells just this.
func uptoIs(t *testing.T, what string, j *journal.Journal, n int, want []row, wantErr api.Errno) {
	t.Helper()
	if got, err := replay.Upto(j, n); !slices.Equal(got, want) || err != wantErr {
		t.Errorf("%s: Upto(%d): %v, %d, not %v, %d", what, n, got, err, want, wantErr)
	}
}
