package wire

import (
	"purser/api"
	"purser/codec"
	"purser/tariff"
)

// maxNumber is the greatest number of a request and of an answer; noLimit is the limit of a node that has none.
const (
	maxNumber = 1 << 62
	noLimit   = -1
)

// maxPlan is how many bytes a plan's Text has at most.
const maxPlan = 1024

// coder goes through parts: it puts them, or takes them. So the parts of each kind are told once, for both ways.
type coder interface {
	// number goes through a number from 0 to most.
	number(n *int, most int)
	// limit goes through a node's limit.
	limit(n *int)
	// flag goes through a yes or a no.
	flag(yes *bool)
	// text goes through a text of at most so many bytes.
	text(b *[]byte, most int)
	// plan goes through the text of a plan.
	plan(p *tariff.Plan)
	// count goes through how many things a list has, at most most, and answers how many follow.
	count(n, most int) int
	// refuse says that there are no such parts.
	refuse()
}

// numbers goes through numbers, each from 0 to maxNumber.
func numbers(c coder, l ...*int) {
	for _, n := range l {
		c.number(n, maxNumber)
	}
}

// list goes through the count of a list, and each thing of it.
func list[T any](c coder, l *[]T, most int, each func(x *T)) {
	n := c.count(len(*l), most)
	if len(*l) == 0 && n > 0 {
		// It is being taken: what is put has its things already.
		*l = make([]T, n)
	}
	for i := range n {
		each(&(*l)[i])
	}
}

// isLimit says whether a request may have this limit.
func isLimit(n int) bool {
	return n >= noLimit && n <= maxNumber
}

// putter puts parts, and changes none of what it goes through.
type putter struct {
	writer  codec.Writer
	refused bool
}

func (p *putter) number(n *int, most int) {
	if *n < 0 || *n > most {
		p.refuse()
		return
	}
	p.writer.Uint(*n)
}

func (p *putter) limit(n *int) {
	if !isLimit(*n) {
		p.refuse()
		return
	}
	p.writer.Int(*n)
}

func (p *putter) flag(yes *bool) {
	p.writer.Flag(*yes)
}

func (p *putter) text(b *[]byte, most int) {
	if len(*b) > most {
		p.refuse()
		return
	}
	p.writer.Text(*b)
}

func (p *putter) plan(x *tariff.Plan) {
	b, err := tariff.Write(*x)
	if err != api.OK {
		p.refuse()
		return
	}
	p.text(&b, maxPlan)
}

func (p *putter) count(n, most int) int {
	if n > most {
		p.refuse()
		return 0
	}
	p.writer.Uint(n)
	return n
}

func (p *putter) refuse() {
	p.refused = true
}

// bytes answers all that was put, if nothing was refused.
func (p *putter) bytes() ([]byte, api.Errno) {
	b, err := p.writer.Bytes()
	if p.refused || err != api.OK {
		return nil, api.ErrForm
	}
	return b, api.OK
}

// taker takes parts. Behind an error of its reader all of them are nothing.
type taker struct {
	reader  *codec.Reader
	refused bool
}

func (t *taker) number(n *int, most int) {
	*n = t.reader.Uint(most)
}

func (t *taker) limit(n *int) {
	*n = t.reader.Int()
	if !isLimit(*n) {
		t.refuse()
	}
}

func (t *taker) flag(yes *bool) {
	*yes = t.reader.Flag()
}

func (t *taker) text(b *[]byte, most int) {
	*b = t.reader.Text(most)
}

func (t *taker) plan(x *tariff.Plan) {
	p, err := tariff.Read(t.reader.Text(maxPlan))
	if err != api.OK {
		t.refuse()
	}
	*x = p
}

func (t *taker) count(_, most int) int {
	return t.reader.Uint(most)
}

func (t *taker) refuse() {
	t.refused = true
}

// isAll says whether all was right, and nothing is left.
func (t *taker) isAll() bool {
	return t.reader.End() == api.OK && !t.refused
}
