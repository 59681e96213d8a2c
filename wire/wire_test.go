package wire_test

import (
	"bytes"
	"encoding/hex"
	"fmt"
	"math"
	"math/rand"
	"reflect"
	"slices"
	"testing"

	"purser/api"
	"purser/funds"
	"purser/grant"
	"purser/tariff"
	"purser/wire"
)

// flat answers a plan of one tier.
func flat(group, price int) tariff.Plan {
	return tariff.Plan{Base: api.Tariff{Group: group, Mode: api.Graduated, Block: 1, Tiers: []api.Tier{{Price: price}}}}
}

// great answers the plan with the most bytes.
func great() tariff.Plan {
	var tiers []api.Tier
	for i := range 5 {
		tiers = append(tiers, api.Tier{Upto: 1<<40 - 4 + i, Price: 1 << 20})
	}
	t := api.Tariff{Group: 8, Mode: api.Volume, Block: 1 << 30, Tiers: append(tiers, api.Tier{Price: 1 << 20})}
	return tariff.Plan{Day: 1 << 30, From: 1<<30 - 1, To: 1<<30 - 2, Base: t, Other: tariff.Copy(t)}
}

// requests answers one request of each kind, and some more, with the bytes that stand in the chapter's table.
func requests() []struct {
	r     request
	bytes string
} {
	return []struct {
		r     request
		bytes string
	}{
		{request{Kind: wire.Initial, Session: 300, Node: 3, Items: []item{{Group: 1, Want: 10}, {Group: 2, Want: 128}}}, "01 ac02 03 02 01 0a 02 8001"},
		{request{Kind: wire.Initial, Session: 1, Node: 2}, "01 01 02 00"},
		{request{Kind: wire.Update, Session: 7, Number: 1, Items: []item{{Group: 1, Used: 2, Want: 3}}}, "02 07 01 01 01 02 03"},
		{request{Kind: wire.Terminate, Session: 7, Number: 2, Items: []item{{Group: 1, Used: 2}, {Group: 8, Used: 4}}}, "03 07 02 02 01 02 08 04"},
		{request{Kind: wire.Event, Number: 4, Node: 3, Group: 1, Units: 20}, "04 04 03 01 14"},
		{request{Kind: wire.Refund, Number: 5, Of: 4}, "05 05 04"},
		{request{Kind: wire.Create, Node: 2, Parent: 1, Sort: 2, Limit: 5}, "06 02 01 02 0a"},
		{request{Kind: wire.Create, Node: 2, Parent: 1, Sort: 2, Limit: -1}, "06 02 01 02 01"},
		{request{Kind: wire.Move, Node: 3, Parent: 4}, "07 03 04"},
		{request{Kind: wire.Shut, Node: 3}, "08 03"},
		{request{Kind: wire.Limit, Node: 3, Limit: 64}, "09 03 8001"},
		{request{Kind: wire.TopUp, Node: 3, Amount: 100}, "0a 03 64"},
		{request{Kind: wire.Price, Plan: flat(1, 3)}, "0b 09 00 00 00 01 01 01 01 00 03"},
		{request{Kind: wire.Roll, Carry: []int{1, 2, 1}}, "0c 03 01 02 01"},
		{request{Kind: wire.Roll}, "0c 00"},
		{request{Kind: wire.Balance, Node: 3}, "0d 03"},
		{request{Kind: wire.Bill, Node: 3, Period: 31}, "0e 03 1f"},
	}
}

// answers answers one answer of each kind, and some more, with the bytes that stand in the chapter.
func answers() []struct {
	a     answer
	bytes string
} {
	account := funds.Account{Topped: 1, Carried: 2, Expired: 3, Used: 4, Held: 5}
	return []struct {
		a     answer
		bytes string
	}{
		{answer{}, "00 00"},
		{answer{Err: api.ErrForm}, "00 02"},
		{answer{Kind: wire.Initial, Grants: []grant.Grant{{Group: 1, Units: 10, Amount: 30, Final: true}, {Group: 2, Units: 300}}, Deadline: 5}, "01 00 02 01 0a 1e 01 02 ac02 00 00 05 00"},
		{answer{Kind: wire.Initial, Err: api.ErrCredit}, "01 09"},
		{answer{Kind: wire.Update, Deadline: 9, Cost: 300}, "02 00 00 09 ac02"},
		{answer{Kind: wire.Terminate, Cost: 15}, "03 00 0f"},
		{answer{Kind: wire.Event, Cost: 60}, "04 00 3c"},
		{answer{Kind: wire.Refund, Cost: 60}, "05 00 3c"},
		{answer{Kind: wire.Create}, "06 00"},
		{answer{Kind: wire.Move}, "07 00"},
		{answer{Kind: wire.Shut}, "08 00"},
		{answer{Kind: wire.Limit}, "09 00"},
		{answer{Kind: wire.TopUp}, "0a 00"},
		{answer{Kind: wire.Price}, "0b 00"},
		{answer{Kind: wire.Roll, Expired: 200}, "0c 00 c801"},
		{answer{Kind: wire.Balance, Account: account, Available: 6}, "0d 00 01 02 03 04 05 06"},
		{answer{Kind: wire.Bill, Invoice: []byte("abc")}, "0e 00 03 61 62 63"},
		{answer{Kind: wire.Bill, Err: 255}, "0e ff01"},
	}
}

// unhex answers the bytes of words of hexadecimal digits.
func unhex(t *testing.T, words string) []byte {
	t.Helper()
	b, err := hex.DecodeString(string(bytes.ReplaceAll([]byte(words), []byte(" "), nil)))
	if err != nil {
		t.Fatal(err)
	}
	return b
}

// asks holds that a request has these bytes, and comes back from them.
func asks(t *testing.T, r, back request, want []byte) {
	t.Helper()
	if b, err := wire.Ask(r); !bytes.Equal(b, want) || err != api.OK {
		t.Errorf("Ask(%+v): %x, %d, not %x", r, b, err, want)
	}
	if got, err := wire.Asked(want); !reflect.DeepEqual(got, back) || err != api.OK {
		t.Errorf("Asked(%x): %+v, %d, not %+v", want, got, err, back)
	}
}

// bare answers an answer whose Invoice is nil, if it is empty: both are one.
func bare(a answer) answer {
	if len(a.Invoice) == 0 {
		a.Invoice = nil
	}
	return a
}

// tells holds that an answer has these bytes, and comes back from them.
func tells(t *testing.T, a, back answer, want []byte) {
	t.Helper()
	if b, err := wire.Tell(a); !bytes.Equal(b, want) || err != api.OK {
		t.Errorf("Tell(%+v): %.60x, %d, not %.60x", a, b, err, want)
	}
	if got, err := wire.Told(want); !reflect.DeepEqual(bare(got), bare(back)) || err != api.OK {
		t.Errorf("Told(%.60x): %+v, %d, not %+v", want, got, err, back)
	}
}

// refusesAsk holds that a request has no bytes.
func refusesAsk(t *testing.T, what string, r request) {
	t.Helper()
	if b, err := wire.Ask(r); len(b) != 0 || err != api.ErrForm {
		t.Errorf("Ask, %s: %x, %d", what, b, err)
	}
}

// refusesTell holds that an answer has no bytes.
func refusesTell(t *testing.T, what string, a answer) {
	t.Helper()
	if b, err := wire.Tell(a); len(b) != 0 || err != api.ErrForm {
		t.Errorf("Tell, %s: %.60x, %d", what, b, err)
	}
}

// refusesAsked holds that bytes are no request's.
func refusesAsked(t *testing.T, b []byte) {
	t.Helper()
	if r, err := wire.Asked(b); !reflect.DeepEqual(r, request{}) || err != api.ErrForm {
		t.Errorf("Asked(%.60x): %+v, %d", b, r, err)
	}
}

// refusesTold holds that bytes are no answer's.
func refusesTold(t *testing.T, b []byte) {
	t.Helper()
	if a, err := wire.Told(b); !reflect.DeepEqual(a, answer{}) || err != api.ErrForm {
		t.Errorf("Told(%.60x): %+v, %d", b, a, err)
	}
}

// junkRequest answers a request of a kind with something out of bounds wherever there can be something.
func junkRequest(kind int) request {
	bad := -7
	r := request{Kind: kind, Session: bad, Number: bad, Node: bad, Group: bad, Units: bad, Of: bad, Parent: bad, Sort: bad, Limit: bad, Amount: bad, Period: bad}
	r.Items = []item{{bad, bad, bad}, {}, {}, {}, {}}
	r.Plan = tariff.Plan{Day: bad, From: bad, To: bad, Base: api.Tariff{Group: bad, Tiers: make([]api.Tier, 9)}}
	r.Carry = slices.Repeat([]int{bad}, 40)
	return r
}

// junkAnswer answers an answer of a kind with something out of bounds wherever there can be something.
func junkAnswer(kind int, err api.Errno) answer {
	bad := -7
	account := funds.Account{Topped: bad, Carried: bad, Expired: bad, Used: bad, Held: bad}
	a := answer{Kind: kind, Err: err, Deadline: bad, Cost: bad, Expired: bad, Available: bad, Account: account}
	a.Grants = make([]grant.Grant, 5)
	a.Invoice = make([]byte, 65537)
	return a
}

func TestP22_1_Requests(t *testing.T) {
	for _, c := range requests() {
		b := unhex(t, c.bytes)
		asks(t, c.r, c.r, b)
		if plain := asked(c.r); !bytes.Equal(plain, b) {
			t.Errorf("the test's own bytes of %+v are %x", c.r, plain)
		}
	}
	r := request{Kind: wire.Price, Plan: great()}
	asks(t, r, r, asked(r))
}

func TestP22_1_Answers(t *testing.T) {
	for _, c := range answers() {
		b := unhex(t, c.bytes)
		tells(t, c.a, c.a, b)
		if plain := told(c.a); !bytes.Equal(plain, b) {
			t.Errorf("the test's own bytes of %+v are %x", c.a, plain)
		}
	}
}

// What a kind doesn't have may be whatever it is.
func TestP22_1_WhatAKindHasNot(t *testing.T) {
	for _, c := range requests() {
		r := junkRequest(c.r.Kind)
		// Each part that the kind has is the one of the table again.
		switch c.r.Kind {
		case wire.Initial:
			r.Session, r.Node, r.Items = c.r.Session, c.r.Node, slices.Clone(c.r.Items)
			for i := range r.Items {
				r.Items[i].Used = -7
			}
		case wire.Update:
			r.Session, r.Number, r.Items = c.r.Session, c.r.Number, c.r.Items
		case wire.Terminate:
			r.Session, r.Number, r.Items = c.r.Session, c.r.Number, slices.Clone(c.r.Items)
			for i := range r.Items {
				r.Items[i].Want = -7
			}
		case wire.Event:
			r.Number, r.Node, r.Group, r.Units = c.r.Number, c.r.Node, c.r.Group, c.r.Units
		case wire.Refund:
			r.Number, r.Of = c.r.Number, c.r.Of
		case wire.Create:
			r.Node, r.Parent, r.Sort, r.Limit = c.r.Node, c.r.Parent, c.r.Sort, c.r.Limit
		case wire.Move:
			r.Node, r.Parent = c.r.Node, c.r.Parent
		case wire.Shut, wire.Balance:
			r.Node = c.r.Node
		case wire.Limit:
			r.Node, r.Limit = c.r.Node, c.r.Limit
		case wire.TopUp:
			r.Node, r.Amount = c.r.Node, c.r.Amount
		case wire.Price:
			r.Plan = c.r.Plan
		case wire.Roll:
			r.Carry = c.r.Carry
		case wire.Bill:
			r.Node, r.Period = c.r.Node, c.r.Period
		}
		asks(t, r, c.r, unhex(t, c.bytes))
	}
	for _, c := range answers() {
		a := junkAnswer(c.a.Kind, c.a.Err)
		switch {
		case c.a.Err != api.OK:
		case c.a.Kind == wire.Initial || c.a.Kind == wire.Update:
			a.Grants, a.Deadline, a.Cost = c.a.Grants, c.a.Deadline, c.a.Cost
		case c.a.Kind == wire.Terminate || c.a.Kind == wire.Event || c.a.Kind == wire.Refund:
			a.Cost = c.a.Cost
		case c.a.Kind == wire.Roll:
			a.Expired = c.a.Expired
		case c.a.Kind == wire.Balance:
			a.Account, a.Available = c.a.Account, c.a.Available
		case c.a.Kind == wire.Bill:
			a.Invoice = c.a.Invoice
		}
		tells(t, a, c.a, unhex(t, c.bytes))
	}
}

// numbersOf answers the places of the numbers of a request's kind; its Limit isn't among them.
func numbersOf(r *request) map[string]*int {
	l := map[string]*int{}
	switch r.Kind {
	case wire.Initial:
		l["Session"], l["Node"] = &r.Session, &r.Node
	case wire.Update, wire.Terminate:
		l["Session"], l["Number"] = &r.Session, &r.Number
	case wire.Event:
		l["Number"], l["Node"], l["Group"], l["Units"] = &r.Number, &r.Node, &r.Group, &r.Units
	case wire.Refund:
		l["Number"], l["Of"] = &r.Number, &r.Of
	case wire.Create:
		l["Node"], l["Parent"], l["Sort"] = &r.Node, &r.Parent, &r.Sort
	case wire.Move:
		l["Node"], l["Parent"] = &r.Node, &r.Parent
	case wire.Shut, wire.Balance, wire.Limit:
		l["Node"] = &r.Node
	case wire.TopUp:
		l["Node"], l["Amount"] = &r.Node, &r.Amount
	case wire.Bill:
		l["Node"], l["Period"] = &r.Node, &r.Period
	}
	for i := range r.Items {
		x := &r.Items[i]
		l[fmt.Sprint("Group of ", i)] = &x.Group
		if r.Kind != wire.Initial {
			l[fmt.Sprint("Used of ", i)] = &x.Used
		}
		if r.Kind != wire.Terminate {
			l[fmt.Sprint("Want of ", i)] = &x.Want
		}
	}
	for i := range r.Carry {
		l[fmt.Sprint("Carry ", i)] = &r.Carry[i]
	}
	return l
}

func TestP22_1_NumbersOfRequests(t *testing.T) {
	seen := 0
	for _, c := range requests() {
		for name, n := range numbersOf(&c.r) {
			seen++
			before := *n
			for _, good := range []int{0, 1, 127, 128, 1 << 40, maxNumber - 1, maxNumber} {
				*n = good
				asks(t, c.r, c.r, asked(c.r))
			}
			for _, bad := range []int{-1, maxNumber + 1, math.MaxInt, math.MinInt} {
				*n = bad
				refusesAsk(t, fmt.Sprint("kind ", c.r.Kind, ", ", name, " ", bad), c.r)
				refusesAsked(t, asked(c.r))
			}
			*n = before
		}
		if c.r.Kind != wire.Create && c.r.Kind != wire.Limit {
			continue
		}
		for _, good := range []int{-1, 0, 1, 1 << 40, maxNumber - 1, maxNumber} {
			c.r.Limit = good
			asks(t, c.r, c.r, asked(c.r))
		}
		for _, bad := range []int{-2, -3, maxNumber + 1, math.MaxInt, math.MinInt} {
			c.r.Limit = bad
			refusesAsk(t, fmt.Sprint("kind ", c.r.Kind, ", Limit ", bad), c.r)
			refusesAsked(t, asked(c.r))
		}
	}
	if seen != 43 {
		t.Errorf("%d numbers", seen)
	}
}

func TestP22_1_NumbersOfAnswers(t *testing.T) {
	for _, c := range answers() {
		if c.a.Err != api.OK {
			continue
		}
		var l []*int
		switch c.a.Kind {
		case wire.Initial, wire.Update:
			l = append(l, &c.a.Deadline, &c.a.Cost)
			for i := range c.a.Grants {
				g := &c.a.Grants[i]
				l = append(l, &g.Group, &g.Units, &g.Amount)
			}
		case wire.Terminate, wire.Event, wire.Refund:
			l = append(l, &c.a.Cost)
		case wire.Roll:
			l = append(l, &c.a.Expired)
		case wire.Balance:
			x := &c.a.Account
			l = append(l, &x.Topped, &x.Carried, &x.Expired, &x.Used, &x.Held, &c.a.Available)
		}
		for i, n := range l {
			before := *n
			for _, good := range []int{0, 1, 127, 128, 1 << 40, maxNumber - 1, maxNumber} {
				*n = good
				tells(t, c.a, c.a, told(c.a))
			}
			for _, bad := range []int{-1, maxNumber + 1, math.MaxInt, math.MinInt} {
				*n = bad
				refusesTell(t, fmt.Sprint("kind ", c.a.Kind, ", number ", i, ": ", bad), c.a)
				refusesTold(t, told(c.a))
			}
			*n = before
		}
	}
}

func TestP22_1_Kinds(t *testing.T) {
	for _, kind := range []int{0, 15, 16, -1, 128, maxNumber, math.MaxInt, math.MinInt} {
		refusesAsk(t, fmt.Sprint("kind ", kind), request{Kind: kind})
		refusesAsk(t, fmt.Sprint("kind ", kind), junkRequest(kind))
		refusesAsked(t, uints(kind))
		refusesAsked(t, uints(kind, 0))
		if kind == 0 {
			continue
		}
		for _, err := range []api.Errno{api.OK, api.ErrArg} {
			refusesTell(t, fmt.Sprint("kind ", kind), answer{Kind: kind, Err: err})
			refusesTold(t, uints(kind, int(err)))
		}
	}
	for kind := range 15 {
		for _, err := range []api.Errno{1, 21, 22, 127, 128, 255} {
			a := answer{Kind: kind, Err: err}
			tells(t, a, a, uints(kind, int(err)))
			refusesTold(t, uints(kind, int(err), 0))
		}
		for _, err := range []api.Errno{-1, 256, math.MaxInt, math.MinInt} {
			refusesTell(t, fmt.Sprint("error ", err), answer{Kind: kind, Err: err})
			refusesTell(t, fmt.Sprint("error ", err), junkAnswer(kind, err))
			refusesTold(t, uints(kind, int(err)))
		}
	}
	refusesAsked(t, nil)
	refusesTold(t, nil)
	refusesTold(t, []byte{0})
}

func TestP22_1_Lists(t *testing.T) {
	for _, kind := range []int{wire.Initial, wire.Update, wire.Terminate} {
		for n := range 7 {
			r := request{Kind: kind, Session: 1, Items: make([]item, n)}
			if n == 0 {
				asks(t, r, request{Kind: kind, Session: 1}, asked(r))
			} else if n <= 4 {
				asks(t, r, r, asked(r))
			} else {
				refusesAsk(t, fmt.Sprint(n, " items"), r)
				refusesAsked(t, asked(r))
			}
		}
		refusesAsk(t, "very many items", request{Kind: kind, Items: make([]item, 1<<16)})
	}
	for n := range 35 {
		r := request{Kind: wire.Roll, Carry: slices.Repeat([]int{7}, n)}
		if n == 0 {
			asks(t, r, request{Kind: wire.Roll}, asked(r))
		} else if n <= 32 {
			asks(t, r, r, asked(r))
		} else {
			refusesAsk(t, fmt.Sprint(n, " nodes"), r)
			refusesAsked(t, asked(r))
		}
	}
	for n := range 7 {
		a := answer{Kind: wire.Update, Grants: make([]grant.Grant, n), Deadline: 1}
		if n == 0 {
			tells(t, a, answer{Kind: wire.Update, Deadline: 1}, told(a))
		} else if n <= 4 {
			tells(t, a, a, told(a))
		} else {
			refusesTell(t, fmt.Sprint(n, " grants"), a)
			refusesTold(t, told(a))
		}
	}
	for _, n := range []int{1, 127, 128, 65535, 65536} {
		a := answer{Kind: wire.Bill, Invoice: bytes.Repeat([]byte{200}, n)}
		tells(t, a, a, told(a))
	}
	tells(t, answer{Kind: wire.Bill, Invoice: []byte{}}, answer{Kind: wire.Bill}, []byte{14, 0, 0})
	for _, n := range []int{65537, 1 << 20} {
		a := answer{Kind: wire.Bill, Invoice: make([]byte, n)}
		refusesTell(t, fmt.Sprint("an invoice of ", n, " bytes"), a)
		refusesTold(t, told(a))
	}
}

func TestP22_1_Plans(t *testing.T) {
	// Each of these is refused by CheckPlan in its own way.
	bends := map[string]func(p *tariff.Plan){
		"nothing":        func(p *tariff.Plan) { *p = tariff.Plan{} },
		"group 0":        func(p *tariff.Plan) { p.Base.Group = 0 },
		"group 9":        func(p *tariff.Plan) { p.Base.Group = 9 },
		"block 0":        func(p *tariff.Plan) { p.Base.Block = 0 },
		"no mode":        func(p *tariff.Plan) { p.Base.Mode = 3 },
		"no tiers":       func(p *tariff.Plan) { p.Base.Tiers = nil },
		"7 tiers":        func(p *tariff.Plan) { p.Base.Tiers = make([]api.Tier, 7) },
		"a price":        func(p *tariff.Plan) { p.Base.Tiers[0].Price = 1<<20 + 1 },
		"no end":         func(p *tariff.Plan) { p.Base.Tiers[0].Upto = 5 },
		"From":           func(p *tariff.Plan) { p.From = 1 },
		"Other":          func(p *tariff.Plan) { p.Other = tariff.Copy(p.Base) },
		"a day of 1":     func(p *tariff.Plan) { p.Day, p.Other = 1, tariff.Copy(p.Base) },
		"From is To":     func(p *tariff.Plan) { p.Day, p.From, p.To, p.Other = 9, 3, 3, tariff.Copy(p.Base) },
		"unlike groups":  func(p *tariff.Plan) { p.Day, p.To, p.Other = 9, 3, flat(2, 1).Base },
		"no other":       func(p *tariff.Plan) { p.Day, p.To = 9, 3 },
		"a number below": func(p *tariff.Plan) { p.Day = -1 },
	}
	for what, bend := range bends {
		p := flat(1, 3)
		bend(&p)
		refusesAsk(t, what, request{Kind: wire.Price, Plan: p})
	}
	plan, _ := tariff.Write(flat(1, 3))
	for _, text := range [][]byte{nil, plan[:8], append(slices.Clone(plan), 0), make([]byte, 1024), make([]byte, 1025), bytes.Repeat(plan, 150)} {
		refusesAsked(t, join(uints(wire.Price, len(text)), text))
	}
	refusesAsked(t, join(uints(wire.Price, len(plan)), plan, []byte{0}))
	refusesAsked(t, join(uints(wire.Price, len(plan)+1), plan))
	if b, _ := tariff.Write(great()); len(b) > 1024 {
		t.Errorf("a plan of %d bytes", len(b))
	}
}

func TestP22_1_Changes(t *testing.T) {
	for kind := -3; kind <= 20; kind++ {
		if want := kind >= 1 && kind <= 12; wire.Changes(kind) != want {
			t.Errorf("Changes(%d) isn't %t", kind, want)
		}
	}
	for _, kind := range []int{wire.Balance, wire.Bill, math.MinInt, math.MaxInt, 256 + 1} {
		if wire.Changes(kind) {
			t.Errorf("Changes(%d)", kind)
		}
	}
}

// reads holds that bytes are read as the test's own reader reads them, and that what is read has just these bytes.
func reads(t *testing.T, b []byte) {
	t.Helper()
	r, err := wire.Asked(b)
	want, fine := readRequest(b)
	if !reflect.DeepEqual(r, want) || (err == api.OK) != fine || err != api.OK && err != api.ErrForm {
		t.Errorf("Asked(%.60x): %+v, %d, not %+v, %t", b, r, err, want, fine)
	}
	if err == api.OK {
		asks(t, r, r, b)
	}
	a, err := wire.Told(b)
	wanted, fine := readAnswer(b)
	if !reflect.DeepEqual(bare(a), bare(wanted)) || (err == api.OK) != fine || err != api.OK && err != api.ErrForm {
		t.Errorf("Told(%.60x): %+v, %d, not %+v, %t", b, a, err, wanted, fine)
	}
	if err == api.OK {
		tells(t, a, a, b)
	}
}

// samples are bytes of requests and answers.
func samples(t *testing.T) [][]byte {
	var l [][]byte
	for _, c := range requests() {
		l = append(l, unhex(t, c.bytes))
	}
	for _, c := range answers() {
		l = append(l, unhex(t, c.bytes))
	}
	many := request{Kind: wire.Update, Session: maxNumber, Number: maxNumber, Items: slices.Repeat([]item{{8, 1 << 30, 1 << 30}}, 4)}
	day := request{Kind: wire.Price, Plan: tariff.Plan{Day: 24, From: 20, To: 6, Base: flat(3, 5).Base, Other: flat(3, 200).Base}}
	return append(l, asked(many), asked(day), asked(request{Kind: wire.Roll, Carry: slices.Repeat([]int{130}, 32)}))
}

func TestP22_2_SpoiltBytes(t *testing.T) {
	for _, b := range samples(t) {
		for i := range b {
			reads(t, b[:i])
			for c := range 256 {
				spoilt := slices.Clone(b)
				spoilt[i] = byte(c)
				reads(t, spoilt)
				reads(t, slices.Insert(slices.Clone(b), i, byte(c)))
			}
			reads(t, slices.Delete(slices.Clone(b), i, i+1))
		}
		for c := range 256 {
			reads(t, append(slices.Clone(b), byte(c)))
		}
	}
}

func TestP22_2_AnyBytes(t *testing.T) {
	random := rand.New(rand.NewSource(22))
	for range 200000 {
		b := make([]byte, random.Intn(14))
		for i := range b {
			b[i] = byte(random.Intn(16))
			if random.Intn(8) == 0 {
				b[i] = byte(random.Intn(256))
			}
		}
		reads(t, b)
	}
	for a := range 256 {
		reads(t, []byte{byte(a)})
		for b := range 256 {
			reads(t, []byte{byte(a), byte(b)})
		}
	}
}

// A second way to write a number, or one with too many groups, is none.
func TestP22_2_OneWayAlone(t *testing.T) {
	for _, words := range []string{"08 8300", "8800 03", "08 83808080808080808000", "08 8180808080808080808001", "09 03 8100", "09 03 ffffffffffffffffff01", "09 03 03", "05 05", "0c 8100 01", "0d 00 01"} {
		refusesAsked(t, unhex(t, words))
	}
	for _, words := range []string{"03 8000 01", "8300 00 01", "03 00 8100", "01 00 01 01 01 01 02 05 00", "01 00 00 05", "0d 00 01 02 03 04 05", "0e 00 02 61", "00 00 00"} {
		refusesTold(t, unhex(t, words))
	}
}

func TestP22_2_ManyComeBack(t *testing.T) {
	random := rand.New(rand.NewSource(7))
	some := func() int { return random.Int() >> random.Intn(62) & (maxNumber - 1) }
	seen := map[string]int{}
	for range 20000 {
		r := request{Kind: 1 + random.Intn(14), Session: some(), Number: some(), Node: some(), Group: some(), Units: some()}
		r.Of, r.Parent, r.Sort, r.Limit, r.Amount, r.Period = some(), some(), some(), some()-1, some(), some()
		for range random.Intn(5) {
			r.Items = append(r.Items, item{some(), some(), some()})
		}
		for range random.Intn(33) {
			r.Carry = append(r.Carry, some())
		}
		r.Plan = flat(1+random.Intn(8), random.Intn(9))
		b, err := wire.Ask(r)
		if want := asked(r); !bytes.Equal(b, want) || err != api.OK {
			t.Fatalf("Ask(%+v): %x, %d, not %x", r, b, err, want)
		}
		seen[string(b)]++
		reads(t, b)
		a := answer{Kind: random.Intn(15), Deadline: some(), Cost: some(), Expired: some(), Available: some()}
		a.Err = api.Errno(max(0, random.Intn(400)-200))
		a.Account = funds.Account{Topped: some(), Carried: some(), Expired: some(), Used: some(), Held: some()}
		a.Invoice = make([]byte, random.Intn(300))
		for range random.Intn(5) {
			a.Grants = append(a.Grants, grant.Grant{Group: some(), Units: some(), Amount: some(), Final: random.Intn(2) == 0})
		}
		b, err = wire.Tell(a)
		if want := told(a); !bytes.Equal(b, want) || err != api.OK {
			t.Fatalf("Tell(%+v): %x, %d, not %x", a, b, err, want)
		}
		reads(t, b)
	}
	if len(seen) < 10000 {
		t.Errorf("%d unlike requests", len(seen))
	}
}

func TestP22_3_NothingIsChangedOrKept(t *testing.T) {
	items := []item{{1, 2, 3}, {4, 5, 6}, {77, 77, 77}}
	carry := []int{1, 2, 77}
	p := tariff.Plan{Day: 9, To: 3, Base: flat(1, 3).Base, Other: flat(1, 4).Base}
	p.Base.Tiers = append(p.Base.Tiers, api.Tier{Upto: 77})[:1]
	for kind := 1; kind <= 14; kind++ {
		r := request{Kind: kind, Items: items[:2], Carry: carry[:2], Plan: p}
		b, err := wire.Ask(r)
		if err != api.OK {
			t.Errorf("kind %d: %d", kind, err)
		}
		twice, _ := wire.Ask(r)
		one, _ := wire.Asked(b)
		two, _ := wire.Asked(b)
		clear(b[:cap(b)])
		if !bytes.Equal(twice, asked(r)) || !reflect.DeepEqual(one, two) {
			t.Errorf("kind %d: %x, %+v, %+v", kind, twice, one, two)
		}
		clear(one.Items[:cap(one.Items)])
		clear(one.Carry[:cap(one.Carry)])
		clear(one.Plan.Base.Tiers[:cap(one.Plan.Base.Tiers)])
		clear(one.Plan.Other.Tiers[:cap(one.Plan.Other.Tiers)])
		if again, _ := wire.Asked(twice); !reflect.DeepEqual(again, two) {
			t.Errorf("kind %d: %+v, not %+v", kind, two, again)
		}
	}
	if !slices.Equal(items, []item{{1, 2, 3}, {4, 5, 6}, {77, 77, 77}}) || !slices.Equal(carry, []int{1, 2, 77}) {
		t.Errorf("%v, %v", items, carry)
	}
	if want := []api.Tier{{Price: 3}, {Upto: 77}}; !slices.Equal(p.Base.Tiers[:2], want) {
		t.Errorf("%v", p.Base.Tiers[:2])
	}
}

func TestP22_3_AnswersOnTheirOwn(t *testing.T) {
	grants := []grant.Grant{{Group: 1, Units: 2, Amount: 3}, {Group: 77}}
	invoice := []byte{1, 2, 77}
	for kind := range 15 {
		a := answer{Kind: kind, Grants: grants[:1], Invoice: invoice[:2]}
		b, err := wire.Tell(a)
		if err != api.OK {
			t.Errorf("kind %d: %d", kind, err)
		}
		twice, _ := wire.Tell(a)
		one, _ := wire.Told(b)
		two, _ := wire.Told(b)
		clear(b[:cap(b)])
		if !bytes.Equal(twice, told(a)) || !reflect.DeepEqual(one, two) {
			t.Errorf("kind %d: %x, %+v, %+v", kind, twice, one, two)
		}
		clear(one.Grants[:cap(one.Grants)])
		clear(one.Invoice[:cap(one.Invoice)])
		if again, _ := wire.Told(twice); !reflect.DeepEqual(again, two) {
			t.Errorf("kind %d: %+v, not %+v", kind, two, again)
		}
	}
	if !slices.Equal(grants, []grant.Grant{{Group: 1, Units: 2, Amount: 3}, {Group: 77}}) || !slices.Equal(invoice, []byte{1, 2, 77}) {
		t.Errorf("%v, %v", grants, invoice)
	}
}
