package ledger

import (
	"slices"

	"purser/api"
	"purser/credit"
	"purser/grant"
	"purser/rate"
	"purser/rhythm"
	"purser/tariff"
	"purser/wire"
)

// maxId is the greatest number of a session.
const maxId = 1 << 62

// maxPosition is the last position behind which something is granted: what is open by then ends well below 2^40.
const maxPosition = 1 << 39

// project is where something is used: a node, the path down to it, and the limits along that.
type project struct {
	node         int
	path, limits []int
	closed       bool
}

// project answers where a node's usage is.
func (l *Ledger) project(node int) (project, api.Errno) {
	path, err := l.tree.Path(node)
	if err != api.OK {
		return project{}, err
	}
	p := project{node: node, path: path}
	for _, above := range path {
		n, _ := l.tree.Get(above)
		p.limits = append(p.limits, n.Limit)
		// The node itself is the path's last one.
		p.closed = n.Closed
	}
	return p, api.OK
}

// openProject answers where a node's usage is, if it is a project, and open.
func (l *Ledger) openProject(node int) (project, api.Errno) {
	n, err := l.tree.Get(node)
	if err != api.OK {
		return project{}, err
	}
	if n.Kind != api.Project {
		return project{}, api.ErrKind
	}
	if n.Closed {
		return project{}, api.ErrClosed
	}
	return l.project(node)
}

// initial opens a session.
func (l *Ledger) initial(r wire.Request) (wire.Answer, api.Errno) {
	p, err := l.openProject(r.Node)
	if err != api.OK {
		return wire.Answer{}, err
	}
	if len(r.Items) == 0 || !areItems(r.Items) || slices.ContainsFunc(r.Items, func(x wire.Item) bool { return !isUse(x.Want) }) {
		return wire.Answer{}, api.ErrArg
	}
	if err := l.canGrant(p.node, r.Items); err != api.OK {
		return wire.Answer{}, err
	}
	if err := l.canOpen(r.Session); err != api.OK {
		return wire.Answer{}, err
	}
	grants, err := l.fit(p, r.Items)
	if err != api.OK {
		return wire.Answer{}, err
	}
	s := credit.Session{Id: r.Session, Node: p.node, Deadline: l.deadline(), Grants: grants}
	// Made of parts, a table may have fewer places than the config.
	if err := l.table.Add(s); err != api.OK {
		return wire.Answer{}, err
	}
	l.hold(p, grants)
	l.timers.Set(s.Id, s.Deadline)
	return wire.Answer{Grants: grants, Deadline: s.Deadline}, api.OK
}

// update settles what a session was granted, and grants what it wants now.
func (l *Ledger) update(r wire.Request) (wire.Answer, api.Errno) {
	s, err := l.reported(r)
	if err != api.OK {
		return wire.Answer{}, err
	}
	wanted := wantedOf(r.Items)
	if err := l.canGrant(s.Node, wanted); err != api.OK {
		return wire.Answer{}, err
	}
	s.Number, s.Deadline = r.Number, l.deadline()
	// Behind the greatest number of all there is no other: that is refused here, where nothing is done yet.
	if err := l.table.Set(s); err != api.OK {
		return wire.Answer{}, err
	}
	p, _ := l.project(s.Node)
	cost := l.settle(p, s.Grants, r.Items)
	s.Grants = l.grant(p, wanted)
	l.table.Set(s)
	l.timers.Set(s.Id, s.Deadline)
	return wire.Answer{Grants: s.Grants, Deadline: s.Deadline, Cost: cost}, api.OK
}

// terminate settles what a session was granted, and closes it.
func (l *Ledger) terminate(r wire.Request) (wire.Answer, api.Errno) {
	s, err := l.reported(r)
	if err != api.OK {
		return wire.Answer{}, err
	}
	p, _ := l.project(s.Node)
	cost := l.settle(p, s.Grants, r.Items)
	l.table.End(s.Id)
	l.timers.Drop(s.Id)
	return wire.Answer{Cost: cost}, api.OK
}

// reported answers the open session of which a request tells what was used, if it may tell that.
func (l *Ledger) reported(r wire.Request) (credit.Session, api.Errno) {
	if err := l.table.Step(r.Session, r.Number); err != api.OK {
		return credit.Session{}, err
	}
	if !areItems(r.Items) || slices.ContainsFunc(r.Items, func(x wire.Item) bool { return !isUnits(x.Used) }) {
		return credit.Session{}, api.ErrArg
	}
	// Who ends wants nothing.
	if r.Kind == wire.Update && slices.ContainsFunc(r.Items, func(x wire.Item) bool { return !isUnits(x.Want) }) {
		return credit.Session{}, api.ErrArg
	}
	s, err := l.table.Get(r.Session)
	if err == api.OK && isOverused(s.Grants, r.Items) {
		return credit.Session{}, api.ErrUsed
	}
	return s, err
}

// Tick lets a step of time go by, and answers the sessions that are over by it.
func (l *Ledger) Tick() ([]int, api.Errno) {
	if l.isNone() {
		return nil, api.ErrArg
	}
	if l.now >= maxNow {
		return nil, api.ErrOver
	}
	l.now++
	due := l.timers.Due(l.now)
	for _, id := range due {
		s, _ := l.table.Get(id)
		p, _ := l.project(s.Node)
		l.release(p, grant.Held(s.Grants))
		l.table.End(id)
	}
	return due, api.OK
}

// deadline answers till when what is granted now is valid.
func (l *Ledger) deadline() int {
	return l.now + l.config.Validity
}

// canGrant answers OK if each item's group has a plan, and no position in one of them is too great.
func (l *Ledger) canGrant(node int, items []wire.Item) api.Errno {
	for _, x := range items {
		if _, ok := l.plans[x.Group]; !ok {
			return api.ErrMiss
		}
	}
	for _, x := range items {
		if l.position(node, x.Group) > maxPosition {
			return api.ErrOver
		}
	}
	return api.OK
}

// canOpen answers OK if a session of this number may be opened.
func (l *Ledger) canOpen(id int) api.Errno {
	if id < 1 || id > maxId {
		return api.ErrArg
	}
	if id <= l.table.Last() {
		return api.ErrStale
	}
	if l.isNearlyFull() || len(l.table.Ids()) >= l.config.Places {
		return api.ErrFull
	}
	return api.OK
}

// position answers how many blocks of a group a project used in the open period.
func (l *Ledger) position(node, group int) int {
	return l.sheet.Position(l.period(), node, group)
}

// fit answers what a project's credit does for, of what the items want.
func (l *Ledger) fit(p project, items []wire.Item) ([]grant.Grant, api.Errno) {
	room, err := l.purse.Room(p.path, p.limits)
	if err != api.OK {
		return nil, err
	}
	var plans []tariff.Plan
	var wants []int
	for _, x := range items {
		plans = append(plans, l.plans[x.Group])
		wants = append(wants, x.Want)
	}
	return grant.Many(plans, room, wants)
}

// grant grants what the items want, as far as the credit does for it, and holds that.
func (l *Ledger) grant(p project, items []wire.Item) []grant.Grant {
	grants, err := l.fit(p, items)
	if err != api.OK || p.closed || l.isNearlyFull() {
		return noneOf(items)
	}
	l.hold(p, grants)
	return grants
}

// noneOf answers that nothing is granted of what the items want.
func noneOf(items []wire.Item) []grant.Grant {
	var grants []grant.Grant
	for _, x := range items {
		grants = append(grants, grant.Grant{Group: x.Group, Final: true})
	}
	return grants
}

// hold keeps back along a project's path what its grants may cost.
func (l *Ledger) hold(p project, grants []grant.Grant) {
	for _, g := range grants {
		if g.Amount > 0 {
			// There is as much room: they were made for it.
			l.purse.Hold(p.path, p.limits, g.Amount)
		}
	}
}

// release makes what was held along a project's path available again.
func (l *Ledger) release(p project, amount int) {
	if amount > 0 {
		l.purse.Release(p.path, amount)
	}
}

// settle lets what was used of grants be paid for, and what is left be available again; it answers what all cost.
func (l *Ledger) settle(p project, grants []grant.Grant, items []wire.Item) int {
	cost := 0
	for _, g := range grants {
		x, left, err := grant.Settle(g, l.plans[g.Group], l.now, l.position(p.node, g.Group), usedOf(items, g.Group))
		if err != api.OK {
			// Only parts that don't fit each other come to this: then nothing is paid for, and nothing is held any more.
			left = g.Amount
		}
		if x.Cost > 0 {
			l.purse.Commit(p.path, x.Cost, g.Group)
		}
		l.release(p, left)
		l.note(p.node, g.Group, x)
		cost += x.Cost
	}
	return cost
}

// note puts what was used on the sheet, and in the project's rhythm.
func (l *Ledger) note(node, group int, x rate.Rated) {
	l.sheet.Add(l.period(), node, group, x.Lines)
	quarter, _ := rhythm.Quarter(l.now, l.config.Day)
	// A rhythm that would be too great stays as it is.
	if r, err := rhythm.Add(l.rhythms[node], quarter, x.Blocks); err == api.OK {
		l.setRhythm(node, r)
	}
}

// areItems says whether there are as many items as there may be, each of a group of its own.
func areItems(items []wire.Item) bool {
	if len(items) > api.MaxItems {
		return false
	}
	for i, x := range items {
		if slices.ContainsFunc(items[:i], func(ahead wire.Item) bool { return ahead.Group == x.Group }) {
			return false
		}
	}
	return true
}

// isUnits says whether there may be so many units, or none.
func isUnits(n int) bool {
	return n >= 0 && n <= api.MaxUnits
}

// isUse says whether there may be so many units, and there are some.
func isUse(n int) bool {
	return n >= 1 && n <= api.MaxUnits
}

// isOverused says whether more was used of a group than was granted of it.
func isOverused(grants []grant.Grant, items []wire.Item) bool {
	for _, x := range items {
		granted := 0
		for _, g := range grants {
			if g.Group == x.Group {
				granted = g.Units
			}
		}
		if x.Used > granted {
			return true
		}
	}
	return false
}

// usedOf answers how many units of a group the items tell.
func usedOf(items []wire.Item, group int) int {
	for _, x := range items {
		if x.Group == group {
			return x.Used
		}
	}
	return 0
}

// wantedOf answers the items that want something.
func wantedOf(items []wire.Item) []wire.Item {
	var wanted []wire.Item
	for _, x := range items {
		if x.Want > 0 {
			wanted = append(wanted, x)
		}
	}
	return wanted
}
