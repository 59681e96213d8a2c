package ledger

import (
	"slices"

	"purser/api"
	"purser/rate"
	"purser/wire"
)

// event lets units be paid for at once.
func (l *Ledger) event(r wire.Request) (wire.Answer, api.Errno) {
	p, err := l.openProject(r.Node)
	if err != api.OK {
		return wire.Answer{}, err
	}
	if !isUse(r.Units) {
		return wire.Answer{}, api.ErrArg
	}
	if err := l.canGrant(p.node, []wire.Item{{Group: r.Group}}); err != api.OK {
		return wire.Answer{}, err
	}
	if l.isNearlyFull() {
		return wire.Answer{}, api.ErrFull
	}
	// By now there is nothing in it that could be refused.
	x, _ := rate.Rate(l.plans[r.Group], l.now, l.position(p.node, r.Group), r.Units)
	if x.Cost > 0 {
		if err := l.purse.Hold(p.path, p.limits, x.Cost); err != api.OK {
			return wire.Answer{}, err
		}
		l.purse.Commit(p.path, x.Cost, r.Group)
	}
	l.note(p.node, r.Group, x)
	l.remember(Past{Number: r.Number, Node: p.node, Group: r.Group, Period: l.period(), Cost: x.Cost, Lines: x.Lines})
	return wire.Answer{Cost: x.Cost}, api.OK
}

// remember lets an event be the last one that is past; of too many the eldest is forgotten.
func (l *Ledger) remember(e Past) {
	l.past = append(l.past, e)
	if len(l.past) > api.MaxEvents {
		l.past = slices.Delete(l.past, 0, 1)
	}
}

// refund gives back what an event cost.
func (l *Ledger) refund(r wire.Request) (wire.Answer, api.Errno) {
	e := l.find(r.Of)
	if e == nil || e.Period < l.period() {
		return wire.Answer{}, api.ErrStale
	}
	if e.Back {
		return wire.Answer{}, api.ErrThere
	}
	if l.isNearlyFull() {
		return wire.Answer{}, api.ErrFull
	}
	if err := l.giveBack(*e); err != api.OK {
		return wire.Answer{}, err
	}
	e.Back = true
	return wire.Answer{Cost: e.Cost}, api.OK
}

// find answers the last event of a number, or nil.
func (l *Ledger) find(number int) *Past {
	for i := range slices.Backward(l.past) {
		if l.past[i].Number == number {
			return &l.past[i]
		}
	}
	return nil
}

// giveBack takes an event's lines off the sheet, and gives its cost back along the path. Only parts that don't fit each other
// come to an error: then nothing is done.
func (l *Ledger) giveBack(e Past) api.Errno {
	p, err := l.project(e.Node)
	if err != api.OK {
		return err
	}
	if err := l.sheet.Take(e.Period, e.Node, e.Group, e.Lines); err != api.OK {
		return err
	}
	if e.Cost <= 0 {
		return api.OK
	}
	err = l.purse.Refund(p.path, e.Cost, e.Group)
	if err != api.OK {
		l.sheet.Add(e.Period, e.Node, e.Group, e.Lines)
	}
	return err
}
