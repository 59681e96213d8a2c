package replay

import (
	"purser/api"
	"purser/entry"
	"purser/funds"
	"purser/journal"
)

// nobody is the node of the accounts that are of none.
const nobody = 0

// tally is the opposites of what entries moved a node's accounts: the balances of Funds and Held; and of the open period what
// was moved by top-ups, what was used in all groups, and what expired.
type tally struct {
	funds, held, topped, used, expired sum
}

// tallies answers the tally of each node, at the node's place, of the first so many entries, a period being open.
func tallies(j *journal.Journal, n, open int) [api.MaxNodes + 1]tally {
	var all [api.MaxNodes + 1]tally
	for i := range n {
		e, period, _ := j.At(i)
		for _, leg := range e.Legs {
			// The journal takes no account but those of nodes that there are.
			all[leg.Account.Node].add(e.Kind, leg, period == open)
		}
	}
	return all
}

// add takes a leg of an entry of a kind, of the open period or of another one, into the tally.
func (t *tally) add(kind int, leg entry.Leg, isOpen bool) {
	switch leg.Account.Kind {
	case entry.Funds:
		t.funds = t.funds.less(leg.Amount)
		if isOpen && kind == entry.TopUp {
			t.topped = t.topped.less(leg.Amount)
		}
	case entry.Held:
		t.held = t.held.less(leg.Amount)
	case entry.Usage:
		if isOpen {
			t.used = t.used.less(leg.Amount)
		}
	case entry.Expired:
		if isOpen {
			t.expired = t.expired.less(leg.Amount)
		}
	}
}

// account answers the account of a tally; false, if a part of it is no int.
func (t tally) account() (funds.Account, bool) {
	// Available is Topped and Carried, less Expired, Used and Held; and it is Funds' opposite.
	carried := t.funds.plus(t.expired).plus(t.used).plus(t.held).minus(t.topped)
	var parts [5]int
	for i, s := range [...]sum{t.topped, carried, t.expired, t.used, t.held} {
		n, ok := s.number()
		if !ok {
			return funds.Account{}, false
		}
		parts[i] = n
	}
	return funds.Account{Topped: parts[0], Carried: parts[1], Expired: parts[2], Used: parts[3], Held: parts[4]}, true
}
