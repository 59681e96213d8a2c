package audit

import (
	"slices"

	"purser/api"
	"purser/entry"
	"purser/ledger"
	"purser/usage"
)

// state is what the parts of a ledger tell of a node, each by itself: it is in order if they agree.
type state struct {
	id                    int
	isProject, isOpen     bool
	isUnderClosed         bool
	available, held, used int
	// funds and kept are what the journal's Funds and Held say is available and held.
	funds, kept int
	// granted is what is held for the open sessions of all nodes below.
	granted int
	// charged is what the node's rows of the open period come to, if that is an int.
	charged   int
	isCharged bool
}

// ask answers the state of a node, be it in the tree or not.
func ask(l *ledger.Ledger, id int) state {
	n, err := l.Tree().Get(id)
	account, j := l.Purse().Get(id), l.Purse().Journal()
	s := state{
		id: id, isProject: n.Kind == api.Project, isOpen: err == api.OK && !n.Closed, isUnderClosed: isUnderClosed(l, id),
		available: l.Purse().Available(id), held: account.Held, used: account.Used,
		funds:   -j.Balance(entry.Account{Kind: entry.Funds, Node: id}),
		kept:    -j.Balance(entry.Account{Kind: entry.Held, Node: id}),
		granted: granted(l, id),
	}
	s.charged, s.isCharged = usage.Amount(l.Sheet().Rows(j.Period(), []int{id}))
	return s
}

// isUnderClosed says whether a node above this one, at whatever distance, is closed.
func isUnderClosed(l *ledger.Ledger, id int) bool {
	path, _ := l.Tree().Path(id)
	return slices.ContainsFunc(path, func(above int) bool {
		n, _ := l.Tree().Get(above)
		return above != id && n.Closed
	})
}

// granted answers what is held for the open sessions of a node and of all below it.
func granted(l *ledger.Ledger, id int) int {
	below, _ := l.Tree().Below(id)
	sum := 0
	// No session is at two nodes, and all that can be held for so few of them is an int.
	for _, under := range below {
		sum += l.Table().Held(under)
	}
	return sum
}

// findings answers what isn't in order at the node.
func (s state) findings() []Finding {
	var found []Finding
	if s.available != s.funds || s.held != s.kept {
		found = append(found, Finding{Balance, s.id})
	}
	if s.available < 0 || s.held < 0 {
		found = append(found, Finding{Below, s.id})
	}
	if s.held != s.granted {
		found = append(found, Finding{Holding, s.id})
	}
	if s.isProject && !(s.isCharged && s.used == s.charged) {
		found = append(found, Finding{Using, s.id})
	}
	if s.isOpen && s.isUnderClosed {
		found = append(found, Finding{Path, s.id})
	}
	return found
}
