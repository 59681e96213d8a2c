package world_test

import (
	"bytes"
	"fmt"
	"math/big"
	"math/rand"
	"slices"
	"testing"

	"purser/api"
	"purser/audit"
	"purser/disk"
	"purser/entry"
	"purser/funds"
	"purser/invoice"
	"purser/ledger"
	"purser/replay"
	"purser/report"
	"purser/store"
	"purser/tariff"
	"purser/wire"
	"purser/world"
)

// What the whole program promises is held to here, through all layers: see shared/DOC.md's promises P2 to P7.

// voyage is a store on a disk, that crashes now and then.
type voyage struct {
	*rand.Rand
	t *testing.T
	c store.Config
	d *disk.Disk
	s *store.Store
}

// embark answers the voyage of a store that has what lays lays.
func embark(t *testing.T, seed int64, c store.Config) *voyage {
	t.Helper()
	d, _ := disk.New(store.Sectors(c))
	s, err := store.Format(d, c)
	if err != api.OK {
		t.Fatalf("Format: %d", err)
	}
	v := &voyage{rand.New(rand.NewSource(seed)), t, c, d, s}
	for _, e := range lays(t) {
		v.happen(e)
	}
	return v
}

// ledger answers the store's ledger.
func (v *voyage) ledger() *ledger.Ledger { return v.s.Server().Ledger() }

// image answers the store's server as bytes.
func (v *voyage) image() []byte { return (&model{v.t, v.s.Server()}).pack() }

// happen lets an event happen, whose power may go off; it answers what that is answered.
func (v *voyage) happen(e event) []byte {
	v.t.Helper()
	switch e.Kind {
	case world.Ask:
		return v.s.Do(e.Bytes)
	case world.Tick:
		_, err := v.s.Tick()
		return []byte{byte(err)}
	case world.Compact:
		return []byte{byte(v.s.Compact())}
	case world.Crash:
		v.crash(e.Kept)
	}
	return nil
}

// crash lets the disk crash, and opens the store that is there behind that.
func (v *voyage) crash(kept []bool) {
	v.t.Helper()
	v.d.Crash(kept)
	s, err := store.Open(v.d, v.c)
	if err != api.OK {
		v.t.Fatalf("Open: %d", err)
	}
	v.s = s
}

// ask lets the store do a request, and answers its answer.
func (v *voyage) ask(r request) wire.Answer {
	v.t.Helper()
	a, err := wire.Told(v.s.Do(bytesOf(v.t, r)))
	if err != api.OK {
		v.t.Fatalf("%+v: no answer", r)
	}
	return a
}

// is holds that a request has an error, or none.
func (v *voyage) is(want api.Errno, r request) wire.Answer {
	v.t.Helper()
	a := v.ask(r)
	if a.Err != want {
		v.t.Fatalf("%+v: %d, not %d", r, a.Err, want)
	}
	return a
}

// sail lets an event of any kind happen, with a Cut and a crash now and then; it answers the event, and what it is answered.
func (v *voyage) sail() (event, []byte) {
	v.t.Helper()
	e := drawn(v.t, v.Rand, v.s.Server())
	if v.Intn(6) == 0 {
		v.d.Cut(1 + v.Intn(4))
	}
	a := v.happen(e)
	if v.d.Off() {
		v.crash(chances(v.Rand, v.Intn(40)))
	}
	v.d.Cut(0)
	return e, a
}

// The greatest amounts are told to the last digit, from layer to layer, over crashes; what is more is refused.
func TestP2_NothingIsLost(t *testing.T) {
	c := wide
	c.Slot = 700
	v := embark(t, 1, c)
	v.is(api.OK, request{Kind: wire.TopUp, Node: 1, Amount: api.MaxAmount - 5001})
	v.is(api.ErrOver, request{Kind: wire.TopUp, Node: 1, Amount: 2})
	v.is(api.OK, request{Kind: wire.TopUp, Node: 1, Amount: 1})
	v.is(api.ErrOver, request{Kind: wire.TopUp, Node: 1, Amount: 1})
	v.is(api.ErrArg, request{Kind: wire.TopUp, Node: 2, Amount: api.MaxAmount + 1})
	v.is(api.ErrOver, request{Kind: wire.TopUp, Node: 2, Amount: api.MaxAmount})
	for node := 2; node <= 4; node++ {
		v.is(api.OK, request{Kind: wire.TopUp, Node: node, Amount: api.MaxAmount - 5000})
	}
	v.is(api.OK, request{Kind: wire.Price, Plan: flat(1, api.MaxPrice)})
	dear := request{Kind: wire.Event, Node: 3, Group: 1, Units: api.MaxUnits}
	cost := api.MaxUnits * api.MaxPrice
	for i := range 7 {
		dear.Number = i + 1
		if a := v.is(api.OK, dear); a.Cost != cost {
			t.Errorf("it costs %d", a.Cost)
		}
		v.crash(nil)
	}
	dear.Number, dear.Units = 9, api.MaxUnits-1
	v.is(api.OK, dear)
	v.crash(nil)
	used := 8*cost - api.MaxPrice
	want := wire.Answer{Kind: wire.Balance, Available: api.MaxAmount - used, Account: funds.Account{Topped: api.MaxAmount, Used: used}}
	if got := v.is(api.OK, request{Kind: wire.Balance, Node: 1}); got.Available != want.Available || got.Account != want.Account || got.Available != api.MaxPrice {
		t.Errorf("%+v, not %+v", got, want)
	}
	dear.Number, dear.Units = 10, 2
	v.is(api.ErrCredit, dear)
	// The square of so many blocks is no int.
	if got := report.Day(v.ledger(), 3); got != "quarter 0 of 8589934591 blocks, strength too great\n" {
		t.Errorf("%s", got)
	}
	if got := report.Shares(v.ledger(), 1, 1<<62); got != "project 3: 4611686018427387904\nproject 4: 0\n" {
		t.Errorf("%s", got)
	}
	v.is(api.OK, request{Kind: wire.Roll})
	v.crash(nil)
	x, err := invoice.Read(v.is(api.OK, request{Kind: wire.Bill, Node: 1}).Invoice)
	if err != api.OK || x.Total != used || x.Parts[0].Amount != used || x.Lines[0].Blocks != 8*api.MaxUnits-1 {
		t.Errorf("%+v, %d", x, err)
	}
	if got := audit.Look(v.ledger()); len(got) != 0 {
		t.Errorf("%v", got)
	}
}

// balanced holds that each entry comes to nought, and that each node's account is what the entries make of it.
func balanced(t *testing.T, what string, l *ledger.Ledger) {
	t.Helper()
	j := l.Purse().Journal()
	opposite := map[entry.Account]*big.Int{}
	used := map[int]*big.Int{}
	for i := range j.Len() {
		e, period, _ := j.At(i)
		sum := new(big.Int)
		for _, leg := range e.Legs {
			n := big.NewInt(int64(leg.Amount))
			sum.Add(sum, n)
			a := leg.Account
			if opposite[a] == nil {
				opposite[a] = new(big.Int)
			}
			opposite[a].Sub(opposite[a], n)
			if used[a.Node] == nil {
				used[a.Node] = new(big.Int)
			}
			if a.Kind == entry.Usage && period == j.Period() {
				used[a.Node].Sub(used[a.Node], n)
			}
		}
		if sum.Sign() != 0 {
			t.Fatalf("%s: entry %d comes to %d", what, i, sum)
		}
	}
	is := func(n *big.Int, want int) bool {
		return n == nil && want == 0 || n != nil && n.Cmp(big.NewInt(int64(want))) == 0
	}
	for node := 1; node <= api.MaxNodes; node++ {
		a, available := l.Purse().Get(node), l.Purse().Available(node)
		if available < 0 || a.Held < 0 || a.Used < 0 {
			t.Fatalf("%s: node %d is below nought: %d, %+v", what, node, available, a)
		}
		if !is(opposite[entry.Account{Kind: entry.Funds, Node: node}], available) || !is(opposite[entry.Account{Kind: entry.Held, Node: node}], a.Held) || !is(used[node], a.Used) {
			t.Fatalf("%s: node %d isn't what the journal says: %d, %+v", what, node, available, a)
		}
	}
	rows, err := replay.Rows(j)
	if err != api.OK {
		t.Fatalf("%s: Rows: %d", what, err)
	}
	nodes := l.Purse().Nodes()
	for _, row := range rows {
		if len(nodes) == 0 || row.Node != nodes[0] || row.Account != l.Purse().Get(row.Node) {
			t.Fatalf("%s: %+v is replayed, not %+v", what, row, l.Purse().Get(row.Node))
		}
		nodes = nodes[1:]
	}
	if len(nodes) != 0 {
		t.Fatalf("%s: %v aren't replayed", what, nodes)
	}
}

func TestP3_EachNodeIsWhatTheJournalSays(t *testing.T) {
	for seed := range int64(12) {
		v := embark(t, seed, narrow)
		for i := range 250 {
			v.sail()
			what := title(seed, i)
			balanced(t, what, v.ledger())
			if got := audit.Look(v.ledger()); len(got) != 0 {
				t.Fatalf("%s: %v", what, got)
			}
		}
	}
}

// Whatever a grant's plan, position and time, all of it used costs at most what was held; behind its deadline that is there again.
func TestP4_WhatIsGranted(t *testing.T) {
	plans := []tariff.Plan{rich(2), flat(2, 3), flat(2, 0)}
	cheapFirst := rich(2)
	cheapFirst.Base.Tiers[0].Price = 0
	plans = append(plans, cheapFirst)
	for p, plan := range plans {
		for ahead := range 12 {
			for wait := range 8 {
				v := embark(t, 1, wide)
				v.is(api.OK, request{Kind: wire.Price, Plan: plan})
				for range ahead {
					v.happen(tick)
				}
				if ahead > 0 {
					v.is(api.OK, request{Kind: wire.Event, Number: 1, Node: 3, Group: 2, Units: 3 * ahead})
				}
				before := v.ledger().Purse().Available(3)
				a := v.is(api.OK, request{Kind: wire.Initial, Session: 7, Node: 3, Items: []item{{Group: 2, Want: 5 + 7*wait}}})
				g := a.Grants[0]
				if v.ledger().Purse().Get(3).Held != g.Amount || a.Deadline != ahead+6 {
					t.Fatalf("plan %d, %d ahead: %+v", p, ahead, a)
				}
				for range wait {
					v.happen(tick)
				}
				v.crash(nil)
				last := request{Kind: wire.Terminate, Session: 7, Number: 1, Items: []item{{Group: 2, Used: g.Units}}}
				what := fmt.Sprintf("plan %d, %d ahead, %d behind", p, ahead, wait)
				if v.ledger().Now() > a.Deadline {
					v.is(api.ErrClosed, last)
					if got := v.ledger().Purse(); got.Get(3).Held != 0 || got.Available(3) != before || len(v.ledger().Table().Ids()) != 0 {
						t.Fatalf("%s: it isn't over", what)
					}
					continue
				}
				if cost := v.is(api.OK, last).Cost; cost > g.Amount || v.ledger().Purse().Available(3) != before-cost || v.ledger().Purse().Get(3).Held != 0 {
					t.Fatalf("%s: it costs %d, and %d was held", what, cost, g.Amount)
				}
			}
		}
	}
}

func TestP4_NoSessionIsLate(t *testing.T) {
	over := 0
	for seed := range int64(10) {
		v := embark(t, seed, narrow)
		for i := range 250 {
			open := v.ledger().Table().Ids()
			e, _ := v.sail()
			held := map[int]int{}
			for _, id := range v.ledger().Table().Ids() {
				s, _ := v.ledger().Table().Get(id)
				if s.Deadline < v.ledger().Now() {
					t.Fatalf("%s: session %d is late", title(seed, i), id)
				}
				path, _ := v.ledger().Tree().Path(s.Node)
				for _, node := range path {
					for _, g := range s.Grants {
						held[node] += g.Amount
					}
				}
			}
			for node := 1; node <= api.MaxNodes; node++ {
				if got := v.ledger().Purse().Get(node).Held; got != held[node] {
					t.Fatalf("%s: %d is held at node %d, and sessions have %d", title(seed, i), got, node, held[node])
				}
			}
			if e.Kind == world.Tick {
				over += len(open) - len(v.ledger().Table().Ids())
			}
		}
	}
	if over < 50 {
		t.Errorf("only %d were over by their time", over)
	}
}

// A copy of what is known is answered as before, and nothing is changed; what is too old is stale, and other bytes clash.
func TestP5_CopiesOverCrashes(t *testing.T) {
	seen := map[byte]int{}
	for seed := range int64(12) {
		v := embark(t, seed, narrow)
		var asked, answers [][]byte
		for i := range 250 {
			e, a := v.sail()
			r, err := wire.Asked(e.Bytes)
			if e.Kind == world.Ask && err == api.OK && r.Kind <= wire.Refund && len(a) > 1 && a[1] == 0 {
				asked, answers = append(asked, e.Bytes), append(answers, a)
			}
			before := v.image()
			for k := range asked {
				if k < len(asked)-3 && v.Intn(10) > 0 {
					continue
				}
				got := v.s.Do(asked[k])
				seen[got[1]]++
				// The last ones are in their windows still.
				if !bytes.Equal(got, answers[k]) && (got[1] != 13 || k >= len(asked)-2) || !bytes.Equal(v.image(), before) {
					t.Fatalf("%s: a copy of %x: %x, not %x", title(seed, i), asked[k], got, answers[k])
				}
			}
			if len(asked) > 0 {
				other, _ := wire.Asked(asked[len(asked)-1])
				other.Units, other.Of, other.Items = other.Units+1, other.Of+1, append([]item{{Group: 8, Want: 1}}, other.Items[:min(len(other.Items), 1)]...)
				if got := v.ask(other); got.Err != api.ErrClash || !bytes.Equal(v.image(), before) {
					t.Fatalf("%s: %+v: %d", title(seed, i), other, got.Err)
				}
			}
		}
	}
	if seen[0] < 5000 || seen[13] < 1000 {
		t.Errorf("%v", seen)
	}
}

// All that a script is answered is what a server of its own answers, over cuts and crashes: what wasn't answered is asked again.
func TestP6_AskedUntilItIsAnswered(t *testing.T) {
	for name, c := range map[string]store.Config{"wide": wide, "narrow": narrow} {
		for n := 1; n <= 40; n++ {
			r := rand.New(rand.NewSource(int64(n)))
			v, m := embark(t, 1, c), fresh(t, c)
			for _, e := range lays(t) {
				m.do(e)
			}
			v.d.Cut(n)
			for i, e := range story(t)[10:] {
				before, got := m.pack(), v.happen(e)
				want := m.do(e)
				for bytes.Equal(got, off(e)) && v.d.Off() {
					v.crash(chances(r, 40))
					if bytes.Equal(v.image(), m.pack()) {
						// It was under way, and is there.
						got = want
						break
					}
					if !bytes.Equal(v.image(), before) {
						t.Fatalf("%s, cut off at %d, event %d: it is another one", name, n, i)
					}
					v.d.Cut(r.Intn(5))
					got = v.happen(e)
				}
				if !bytes.Equal(got, want) || !v.d.Off() && !bytes.Equal(v.image(), m.pack()) {
					t.Fatalf("%s, cut off at %d, event %d: %x, not %x", name, n, i, got, want)
				}
			}
		}
	}
}

// billed holds that an invoice comes to the sum of its lines, and to what the journal says of its projects; it answers its Total.
func billed(t *testing.T, what string, v *voyage, node, period int) int {
	t.Helper()
	x, err := invoice.Read(v.is(api.OK, request{Kind: wire.Bill, Node: node, Period: period}).Invoice)
	if err != api.OK || invoice.Check(x) != api.OK || x.Node != node || x.Period != period {
		t.Fatalf("%s: %+v, %d", what, x, err)
	}
	total := 0
	for _, line := range x.Lines {
		if line.Amount != line.Blocks*line.Price {
			t.Fatalf("%s: %+v", what, line)
		}
		total += line.Amount
	}
	below, _ := v.ledger().Tree().Below(node)
	projects := slices.DeleteFunc(below, func(id int) bool {
		n, _ := v.ledger().Tree().Get(id)
		return n.Kind != api.Project
	})
	net, ok := invoice.Net(v.ledger().Purse().Journal(), projects, period)
	if total != x.Total || !ok || net != total {
		t.Fatalf("%s: node %d, period %d: the lines come to %d, the Total is %d, the journal says %d", what, node, period, total, x.Total, net)
	}
	return total
}

func TestP7_Invoices(t *testing.T) {
	bills, sum := 0, 0
	for seed := range int64(12) {
		v := embark(t, seed, wide)
		for i := range 250 {
			v.sail()
			if i%60 == 59 {
				v.ask(request{Kind: wire.Roll, Carry: []int{1, 2, 3, 4}})
			}
			if i%25 != 0 {
				continue
			}
			for period := range v.ledger().Purse().Journal().Period() {
				for _, node := range v.ledger().Tree().Ids() {
					sum += billed(t, title(seed, i), v, node, period)
					bills++
				}
			}
		}
	}
	if bills < 1000 || sum < 10000 {
		t.Errorf("%d bills of %d", bills, sum)
	}
}
