package image

import (
	"cmp"
	"maps"
	"slices"

	"purser/api"
	"purser/codec"
	"purser/entry"
	"purser/ledger"
	"purser/period"
	"purser/rhythm"
	"purser/server"
	"purser/tariff"
	"purser/tree"
)

// packer puts a server's parts.
type packer struct {
	codec.Writer
	// refused: a layer has no bytes for what it was given.
	refused bool
}

// numbers puts counts, one behind the other.
func (p *packer) numbers(l ...int) {
	for _, n := range l {
		p.Uint(n)
	}
}

// text puts a layer's bytes, if it has some.
func (p *packer) text(b []byte, err api.Errno) {
	if err != api.OK {
		p.refused = true
	}
	p.Text(b)
}

// server puts all of a server's parts.
func (p *packer) server(s server.Parts) {
	l := s.Ledger.Parts()
	p.numbers(l.Config.Validity, l.Config.Places, l.Config.Day, l.Now)
	p.nodes(l.Tree)
	p.accounts(l.Purse)
	p.journal(l.Purse)
	p.plans(l.Plans)
	p.text(l.Sheet.Write())
	p.text(l.Table.Write())
	p.rhythms(l.Rhythms)
	p.past(l.Past)
	p.known(s.Sessions)
	p.Uint(len(s.Ended))
	p.numbers(s.Ended...)
	p.text(s.Events.Write())
}

// nodes puts the nodes of a tree: each behind its parent, as that has a lesser Kind.
func (p *packer) nodes(t *tree.Tree) {
	var nodes []tree.Node
	for _, id := range t.Ids() {
		n, _ := t.Get(id)
		nodes = append(nodes, n)
	}
	slices.SortFunc(nodes, func(a, b tree.Node) int {
		return cmp.Or(cmp.Compare(a.Kind, b.Kind), cmp.Compare(a.Id, b.Id))
	})
	p.Uint(len(nodes))
	for _, n := range nodes {
		p.numbers(n.Id, n.Parent, n.Kind)
		p.Int(n.Limit)
		p.Flag(n.Closed)
	}
}

// accounts puts what the nodes have.
func (p *packer) accounts(purse *period.Purse) {
	nodes := purse.Nodes()
	p.Uint(len(nodes))
	for _, node := range nodes {
		a := purse.Get(node)
		p.numbers(node, a.Topped, a.Carried, a.Expired, a.Used, a.Held)
	}
}

// journal puts the entries of a purse's journal, each with its period.
func (p *packer) journal(purse *period.Purse) {
	j := purse.Journal()
	p.numbers(j.Period(), j.Len())
	for i := range j.Len() {
		e, posted, _ := j.At(i)
		p.Uint(posted)
		p.text(entry.Write(e))
	}
}

// plans puts the groups' plans.
func (p *packer) plans(l []tariff.Plan) {
	p.Uint(len(l))
	for _, x := range l {
		p.text(tariff.Write(x))
	}
}

// rhythms puts the nodes' rhythms.
func (p *packer) rhythms(l map[int]rhythm.Rhythm) {
	p.Uint(len(l))
	for _, node := range slices.Sorted(maps.Keys(l)) {
		p.Uint(node)
		for _, blocks := range l[node].Quarters {
			p.Uint(blocks)
		}
	}
}

// past puts the events that are known still.
func (p *packer) past(l []ledger.Past) {
	p.Uint(len(l))
	for _, e := range l {
		p.numbers(e.Number, e.Node, e.Group, e.Period, e.Cost, len(e.Lines))
		for _, line := range e.Lines {
			p.numbers(line.Tier, line.Blocks, line.Price)
		}
		p.Flag(e.Back)
	}
}

// known puts the windows of the sessions that are known.
func (p *packer) known(l []server.Known) {
	p.Uint(len(l))
	for _, k := range l {
		p.Uint(k.Id)
		p.text(k.Window.Write())
	}
}
