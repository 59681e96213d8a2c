package wire_test

import (
	"bytes"
	"encoding/binary"

	"purser/api"
	"purser/funds"
	"purser/grant"
	"purser/tariff"
	"purser/wire"
)

// maxNumber is the greatest number of all.
const maxNumber = 1 << 62

type (
	request = wire.Request
	answer  = wire.Answer
	item    = wire.Item
)

// uints answers counts as bytes.
func uints(l ...int) []byte {
	var b []byte
	for _, n := range l {
		b = binary.AppendUvarint(b, uint64(n))
	}
	return b
}

// number answers a number, that may be below 0, as bytes.
func number(n int) []byte { return binary.AppendVarint(nil, int64(n)) }

// text answers a text as bytes.
func text(b []byte) []byte { return append(uints(len(b)), b...) }

// flag answers a yes or a no as bytes.
func flag(yes bool) []byte {
	if yes {
		return []byte{1}
	}
	return []byte{0}
}

// join answers all of these behind each other.
func join(l ...[]byte) []byte { return bytes.Join(l, nil) }

// asked answers the bytes of a request whose numbers are within their bounds.
func asked(r request) []byte {
	b := uints(r.Kind)
	switch r.Kind {
	case 1:
		b = append(b, uints(r.Session, r.Node, len(r.Items))...)
	case 2, 3:
		b = append(b, uints(r.Session, r.Number, len(r.Items))...)
	case 4:
		return append(b, uints(r.Number, r.Node, r.Group, r.Units)...)
	case 5:
		return append(b, uints(r.Number, r.Of)...)
	case 6:
		return join(b, uints(r.Node, r.Parent, r.Sort), number(r.Limit))
	case 7:
		return append(b, uints(r.Node, r.Parent)...)
	case 8, 13:
		return append(b, uints(r.Node)...)
	case 9:
		return join(b, uints(r.Node), number(r.Limit))
	case 10:
		return append(b, uints(r.Node, r.Amount)...)
	case 11:
		plan, _ := tariff.Write(r.Plan)
		return append(b, text(plan)...)
	case 12:
		return join(b, uints(len(r.Carry)), uints(r.Carry...))
	case 14:
		return append(b, uints(r.Node, r.Period)...)
	}
	for _, x := range r.Items {
		switch r.Kind {
		case 1:
			b = append(b, uints(x.Group, x.Want)...)
		case 2:
			b = append(b, uints(x.Group, x.Used, x.Want)...)
		case 3:
			b = append(b, uints(x.Group, x.Used)...)
		}
	}
	return b
}

// told answers the bytes of an answer whose numbers are within their bounds.
func told(a answer) []byte {
	b := uints(a.Kind, int(a.Err))
	if a.Err != 0 {
		return b
	}
	switch a.Kind {
	case 1, 2:
		b = append(b, uints(len(a.Grants))...)
		for _, g := range a.Grants {
			b = join(b, uints(g.Group, g.Units, g.Amount), flag(g.Final))
		}
		b = append(b, uints(a.Deadline, a.Cost)...)
	case 3, 4, 5:
		b = append(b, uints(a.Cost)...)
	case 12:
		b = append(b, uints(a.Expired)...)
	case 13:
		x := a.Account
		b = append(b, uints(x.Topped, x.Carried, x.Expired, x.Used, x.Held, a.Available)...)
	case 14:
		b = append(b, text(a.Invoice)...)
	}
	return b
}

// plain reads parts, as plainly as can be.
type plain struct {
	left  []byte
	wrong bool
}

// raw takes the groups of a number of at most 64 bits.
func (p *plain) raw() uint64 {
	n, size := binary.Uvarint(p.left)
	if p.wrong || size <= 0 || size > 1 && p.left[size-1] == 0 {
		p.wrong = true
		return 0
	}
	p.left = p.left[size:]
	return n
}

// most takes a number from 0 to most.
func (p *plain) most(most int) int {
	n := p.raw()
	if n > uint64(most) {
		p.wrong = true
		return 0
	}
	return int(n)
}

func (p *plain) number() int { return p.most(maxNumber) }

func (p *plain) limit() int {
	n := p.raw()
	if n > 2*maxNumber || n%2 == 1 && n > 1 {
		p.wrong = true
	}
	if n == 1 {
		return -1
	}
	return int(n / 2)
}

func (p *plain) text(most int) []byte {
	n := p.most(most)
	if p.wrong || n > len(p.left) {
		p.wrong = true
		return nil
	}
	b := p.left[:n]
	p.left = p.left[n:]
	return b
}

func (p *plain) flag() bool {
	n := p.raw()
	p.wrong = p.wrong || n > 1
	return n == 1
}

// request takes a request.
func (p *plain) request() request {
	r := request{Kind: p.most(14)}
	items := func(more func() item) {
		for range p.most(4) {
			r.Items = append(r.Items, more())
		}
	}
	switch r.Kind {
	case 1:
		r.Session, r.Node = p.number(), p.number()
		items(func() item { return item{Group: p.number(), Want: p.number()} })
	case 2:
		r.Session, r.Number = p.number(), p.number()
		items(func() item { return item{Group: p.number(), Used: p.number(), Want: p.number()} })
	case 3:
		r.Session, r.Number = p.number(), p.number()
		items(func() item { return item{Group: p.number(), Used: p.number()} })
	case 4:
		r.Number, r.Node, r.Group, r.Units = p.number(), p.number(), p.number(), p.number()
	case 5:
		r.Number, r.Of = p.number(), p.number()
	case 6:
		r.Node, r.Parent, r.Sort, r.Limit = p.number(), p.number(), p.number(), p.limit()
	case 7:
		r.Node, r.Parent = p.number(), p.number()
	case 8, 13:
		r.Node = p.number()
	case 9:
		r.Node, r.Limit = p.number(), p.limit()
	case 10:
		r.Node, r.Amount = p.number(), p.number()
	case 11:
		plan, err := tariff.Read(p.text(1024))
		r.Plan, p.wrong = plan, p.wrong || err != api.OK
	case 12:
		for range p.most(32) {
			r.Carry = append(r.Carry, p.number())
		}
	case 14:
		r.Node, r.Period = p.number(), p.number()
	default:
		p.wrong = true
	}
	return r
}

// answer takes an answer.
func (p *plain) answer() answer {
	a := answer{Kind: p.most(14), Err: api.Errno(p.most(255))}
	if a.Err != 0 {
		return a
	}
	switch a.Kind {
	case 1, 2:
		for range p.most(4) {
			a.Grants = append(a.Grants, grant.Grant{Group: p.number(), Units: p.number(), Amount: p.number(), Final: p.flag()})
		}
		a.Deadline, a.Cost = p.number(), p.number()
	case 3, 4, 5:
		a.Cost = p.number()
	case 12:
		a.Expired = p.number()
	case 13:
		a.Account = funds.Account{Topped: p.number(), Carried: p.number(), Expired: p.number(), Used: p.number(), Held: p.number()}
		a.Available = p.number()
	case 14:
		a.Invoice = p.text(65536)
	}
	return a
}

// readRequest answers the request whose bytes these are, and whether there is one.
func readRequest(b []byte) (request, bool) {
	p := &plain{left: b}
	r := p.request()
	if p.wrong || len(p.left) > 0 {
		return request{}, false
	}
	return r, true
}

// readAnswer answers the answer whose bytes these are, and whether there is one.
func readAnswer(b []byte) (answer, bool) {
	p := &plain{left: b}
	a := p.answer()
	if p.wrong || len(p.left) > 0 {
		return answer{}, false
	}
	return a, true
}
