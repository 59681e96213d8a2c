package ledger

import (
	"slices"

	"purser/api"
	"purser/grant"
	"purser/invoice"
	"purser/tariff"
	"purser/wire"
)

// move puts a node under another parent, if nothing is used or held at it: that is told at the nodes above it, too.
func (l *Ledger) move(node, parent int) api.Errno {
	if _, err := l.tree.Get(node); err != api.OK {
		return err
	}
	if a := l.purse.Get(node); a.Used > 0 || a.Held > 0 {
		return api.ErrBusy
	}
	return l.tree.Move(node, parent)
}

// shut closes a node.
func (l *Ledger) shut(node int) api.Errno {
	if _, err := l.tree.Get(node); err != api.OK {
		return err
	}
	if l.purse.Get(node).Held > 0 {
		return api.ErrBusy
	}
	return l.tree.Close(node)
}

// topUp gives a node more.
func (l *Ledger) topUp(node, amount int) api.Errno {
	n, err := l.tree.Get(node)
	if err != api.OK {
		return err
	}
	if n.Closed {
		return api.ErrClosed
	}
	if l.isNearlyFull() {
		return api.ErrFull
	}
	return l.purse.TopUp(node, amount)
}

// price gives a plan's group that plan.
func (l *Ledger) price(p tariff.Plan) api.Errno {
	if tariff.CheckPlan(p) != api.OK {
		return api.ErrArg
	}
	// What is held for a grant does by the plan that it was made of alone.
	if l.isGranted(p.Base.Group) {
		return api.ErrBusy
	}
	l.plans[p.Base.Group] = copyPlan(p)
	return api.OK
}

// isGranted says whether an open session has a grant of a group.
func (l *Ledger) isGranted(group int) bool {
	for _, id := range l.table.Ids() {
		s, _ := l.table.Get(id)
		if slices.ContainsFunc(s.Grants, func(g grant.Grant) bool { return g.Group == group }) {
			return true
		}
	}
	return false
}

// roll begins the next period.
func (l *Ledger) roll(carry []int) (wire.Answer, api.Errno) {
	if l.isNearlyFull() {
		return wire.Answer{}, api.ErrFull
	}
	expired, err := l.purse.Roll(carry)
	if err != api.OK {
		return wire.Answer{}, err
	}
	clear(l.rhythms)
	return wire.Answer{Expired: expired}, api.OK
}

// balance answers what a node has.
func (l *Ledger) balance(node int) (wire.Answer, api.Errno) {
	if _, err := l.tree.Get(node); err != api.OK {
		return wire.Answer{}, err
	}
	return wire.Answer{Account: l.purse.Get(node), Available: l.purse.Available(node)}, api.OK
}

// bill answers the invoice of a node for a closed period.
func (l *Ledger) bill(node, period int) (wire.Answer, api.Errno) {
	if _, err := l.tree.Get(node); err != api.OK {
		return wire.Answer{}, err
	}
	if period >= l.period() {
		return wire.Answer{}, api.ErrMiss
	}
	x, err := invoice.Make(l.tree, l.sheet, node, period)
	if err != api.OK {
		return wire.Answer{}, err
	}
	b, err := invoice.Write(x)
	return wire.Answer{Invoice: b}, err
}
