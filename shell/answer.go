package shell

import (
	"strconv"

	"purser/api"
	"purser/grant"
	"purser/invoice"
	"purser/wire"
)

// told answers the line of an answer; of a bill there are several.
func told(a wire.Answer) string {
	if a.Err != api.OK {
		return refusal(a.Err)
	}
	switch a.Kind {
	case wire.Initial:
		return granted(a) + lineEnd
	case wire.Update:
		return granted(a) + ", " + cost(a) + lineEnd
	case wire.Terminate, wire.Event, wire.Refund:
		return cost(a) + lineEnd
	case wire.Roll:
		return "expired " + strconv.Itoa(a.Expired) + lineEnd
	case wire.Balance:
		return balance(a) + lineEnd
	case wire.Bill:
		return bill(a)
	}
	return done
}

// granted answers the words of an answer's grants: a line asks for one group, so there is one, or none.
func granted(a wire.Answer) string {
	what := "nothing"
	if len(a.Grants) > 0 {
		what = wordsOf(a.Grants[0])
	}
	return "granted " + what + " until " + strconv.Itoa(a.Deadline)
}

// wordsOf answers the words of a grant.
func wordsOf(g grant.Grant) string {
	s := strconv.Itoa(g.Units) + " of " + strconv.Itoa(g.Group) + " for " + strconv.Itoa(g.Amount)
	if g.Final {
		s += " final"
	}
	return s
}

// cost answers the words of an answer's cost.
func cost(a wire.Answer) string {
	return "cost " + strconv.Itoa(a.Cost)
}

// balance answers the words of what a node has.
func balance(a wire.Answer) string {
	s := "available " + strconv.Itoa(a.Available) + " held " + strconv.Itoa(a.Account.Held)
	return s + " used " + strconv.Itoa(a.Account.Used)
}

// bill answers the lines of an invoice.
func bill(a wire.Answer) string {
	x, err := invoice.Read(a.Invoice)
	if err != api.OK {
		return refusal(err)
	}
	return invoice.Text(x)
}
