package image

import (
	"purser/api"
	"purser/codec"
	"purser/credit"
	"purser/entry"
	"purser/funds"
	"purser/ledger"
	"purser/period"
	"purser/rhythm"
	"purser/server"
	"purser/tariff"
	"purser/tree"
	"purser/usage"
	"purser/window"
)

// unpacker takes a server's parts. Behind its reader's error all of them are nothing, and so its loops end.
type unpacker struct {
	*codec.Reader
	// refused: a layer doesn't take what was read.
	refused bool
}

// number takes a count.
func (u *unpacker) number() int {
	return u.Uint(maxNumber)
}

// accept notes whether a layer takes what was read.
func (u *unpacker) accept(err api.Errno) {
	if err != api.OK {
		u.refused = true
	}
}

// text takes what a layer reads of bytes.
func text[T any](u *unpacker, read func(b []byte) (T, api.Errno)) T {
	x, err := read(u.Text(maxText))
	u.accept(err)
	return x
}

// server takes all of a server's parts.
func (u *unpacker) server() *server.Server {
	p := server.Parts{Ledger: u.ledger(), Sessions: u.known()}
	for range u.Uint(api.MaxEnded) {
		p.Ended = append(p.Ended, u.number())
	}
	p.Events = text(u, window.Read)
	s, err := server.Make(p)
	u.accept(err)
	return s
}

// ledger takes the parts of a server's ledger.
func (u *unpacker) ledger() *ledger.Ledger {
	l, err := ledger.Make(ledger.Parts{
		Config:  ledger.Config{Validity: u.number(), Places: u.number(), Day: u.number()},
		Now:     u.number(),
		Tree:    u.tree(),
		Purse:   u.purse(),
		Plans:   u.plans(),
		Sheet:   text(u, usage.Read),
		Table:   text(u, credit.Read),
		Rhythms: u.rhythms(),
		Past:    u.past(),
	})
	u.accept(err)
	return l
}

// tree takes nodes.
func (u *unpacker) tree() *tree.Tree {
	t := tree.New()
	for range u.Uint(api.MaxNodes) {
		n := tree.Node{Id: u.number(), Parent: u.number(), Kind: u.number(), Limit: u.Int(), Closed: u.Flag()}
		u.accept(t.Put(n))
	}
	return t
}

// purse takes accounts, and the entries of their journal.
func (u *unpacker) purse() *period.Purse {
	accounts := map[int]funds.Account{}
	for range u.Uint(api.MaxNodes) {
		node := u.number()
		accounts[node] = funds.Account{Topped: u.number(), Carried: u.number(), Expired: u.number(), Used: u.number(), Held: u.number()}
	}
	open := u.number()
	var entries []entry.Entry
	var periods []int
	for range u.Uint(maxEntries) {
		periods = append(periods, u.number())
		entries = append(entries, text(u, entry.Read))
	}
	p, err := period.Restore(accounts, entries, periods, open)
	u.accept(err)
	return p
}

// plans takes the groups' plans.
func (u *unpacker) plans() []tariff.Plan {
	var l []tariff.Plan
	for range u.Uint(api.MaxGroups) {
		l = append(l, text(u, tariff.Read))
	}
	return l
}

// rhythms takes the nodes' rhythms.
func (u *unpacker) rhythms() map[int]rhythm.Rhythm {
	l := map[int]rhythm.Rhythm{}
	for range u.Uint(api.MaxNodes) {
		node := u.number()
		var r rhythm.Rhythm
		for i := range r.Quarters {
			r.Quarters[i] = u.number()
		}
		// The ledger takes any rhythm; but one that isn't right is none.
		_, err := rhythm.Join(r, rhythm.Rhythm{})
		u.accept(err)
		l[node] = r
	}
	return l
}

// past takes the events that are known still.
func (u *unpacker) past() []ledger.Past {
	var l []ledger.Past
	for range u.Uint(api.MaxEvents) {
		e := ledger.Past{Number: u.number(), Node: u.number(), Group: u.number(), Period: u.number(), Cost: u.number()}
		for range u.Uint(api.MaxTiers) {
			e.Lines = append(e.Lines, api.Line{Tier: u.number(), Blocks: u.number(), Price: u.number()})
		}
		e.Back = u.Flag()
		l = append(l, e)
	}
	return l
}

// known takes the windows of the sessions that are known.
func (u *unpacker) known() []server.Known {
	var l []server.Known
	for range u.Uint(maxKnown) {
		l = append(l, server.Known{Id: u.number(), Window: text(u, window.Read)})
	}
	return l
}
