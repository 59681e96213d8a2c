package world_test

import (
	"bytes"
	"fmt"
	"math/rand"
	"slices"
	"testing"

	"purser/api"
	"purser/image"
	"purser/ledger"
	"purser/server"
	"purser/store"
	"purser/tariff"
	"purser/wire"
	"purser/world"
)

type (
	request = wire.Request
	item    = wire.Item
	event   = world.Event
)

// wide is a config in which all has room; the log of narrow is full now and then.
var (
	wide   = store.Config{Ledger: ledger.Config{Validity: 6, Places: 4, Day: 24}, Slot: 300, Log: 600}
	narrow = store.Config{Ledger: ledger.Config{Validity: 6, Places: 4, Day: 24}, Slot: 300, Log: 5}
)

// bytesOf answers the bytes of a request.
func bytesOf(t *testing.T, r request) []byte {
	t.Helper()
	b, err := wire.Ask(r)
	if err != api.OK {
		t.Fatalf("Ask(%+v): %d", r, err)
	}
	return b
}

// ask answers the event of a request.
func ask(t *testing.T, r request) event {
	t.Helper()
	return event{Kind: world.Ask, Bytes: bytesOf(t, r)}
}

var (
	tick    = event{Kind: world.Tick}
	compact = event{Kind: world.Compact}
	crash   = event{Kind: world.Crash}
)

func cut(n int) event { return event{Kind: world.Cut, N: n} }

// flat answers a plan of one tier.
func flat(group, price int) tariff.Plan {
	return tariff.Plan{Base: api.Tariff{Group: group, Mode: api.Graduated, Block: 1, Tiers: []api.Tier{{Price: price}}}}
}

// rich answers a plan of several tiers, and of another tariff at night, by volume.
func rich(group int) tariff.Plan {
	base := api.Tariff{Group: group, Mode: api.Graduated, Block: 3, Tiers: []api.Tier{{Upto: 4, Price: 7}, {Upto: 9, Price: 5}, {Price: 2}}}
	other := api.Tariff{Group: group, Mode: api.Volume, Block: 3, Tiers: []api.Tier{{Upto: 6, Price: 3}, {Price: 1}}}
	return tariff.Plan{Day: 10, From: 7, To: 3, Base: base, Other: other}
}

// lays are events that lay an organization (1), its team (2) and two projects (3, 4), each with 5000, and plans of two groups.
func lays(t *testing.T) []event {
	t.Helper()
	var l []event
	for i := 1; i <= 4; i++ {
		l = append(l, ask(t, request{Kind: wire.Create, Node: i, Parent: min(i-1, 2), Sort: min(i, 3), Limit: -1}))
		l = append(l, ask(t, request{Kind: wire.TopUp, Node: i, Amount: 5000}))
	}
	return append(l, ask(t, request{Kind: wire.Price, Plan: flat(1, 3)}), ask(t, request{Kind: wire.Price, Plan: rich(2)}))
}

// story is a script without a Cut, in which each kind of request is done, copied and refused.
func story(t *testing.T) []event {
	t.Helper()
	first := ask(t, request{Kind: wire.Initial, Session: 1, Node: 3, Items: []item{{Group: 1, Want: 10}, {Group: 2, Want: 8}}})
	more := ask(t, request{Kind: wire.Update, Session: 1, Number: 1, Items: []item{{Group: 1, Used: 4, Want: 5}, {Group: 2, Used: 7}}})
	last := ask(t, request{Kind: wire.Terminate, Session: 1, Number: 2, Items: []item{{Group: 1, Used: 5}}})
	paid := ask(t, request{Kind: wire.Event, Number: 4, Node: 4, Group: 2, Units: 9})
	back := ask(t, request{Kind: wire.Refund, Number: 6, Of: 4})
	return append(lays(t),
		first, tick, first, paid, paid, more, more, ask(t, request{Kind: wire.Balance, Node: 2}), back, back, last, last, first,
		ask(t, request{Kind: wire.Create, Node: 9, Parent: 1, Sort: 2, Limit: 70}),
		ask(t, request{Kind: wire.Move, Node: 4, Parent: 9}),
		ask(t, request{Kind: wire.Limit, Node: 4, Limit: 500}),
		ask(t, request{Kind: wire.Initial, Session: 2, Node: 4, Items: []item{{Group: 1, Want: 1000}}}),
		tick, compact, tick, event{Kind: world.Ask}, event{Kind: world.Ask, Bytes: []byte{8}},
		ask(t, request{Kind: wire.Shut, Node: 4}), ask(t, request{Kind: wire.Shut, Node: 3}),
		ask(t, request{Kind: wire.Roll, Carry: []int{1, 4, 9}}),
		ask(t, request{Kind: wire.Bill, Node: 1}), ask(t, request{Kind: wire.Bill, Node: 1, Period: 1}),
		tick, tick, tick, tick, tick, event{}, event{Kind: 6, Bytes: []byte{8, 3}, N: 1, Kept: []bool{true}},
		ask(t, request{Kind: wire.Balance, Node: 4}),
	)
}

// model is a server that nothing ever comes to.
type model struct {
	t *testing.T
	s *server.Server
}

// fresh answers the model of a new server.
func fresh(t *testing.T, c store.Config) *model {
	t.Helper()
	s, err := server.New(c.Ledger)
	if err != api.OK {
		t.Fatalf("server.New: %d", err)
	}
	return &model{t, s}
}

// from answers the model of a server of an image.
func from(t *testing.T, b []byte) *model {
	t.Helper()
	s, err := image.Unpack(b)
	if err != api.OK {
		t.Fatalf("Unpack: %d", err)
	}
	return &model{t, s}
}

// pack answers the server's image.
func (m *model) pack() []byte {
	m.t.Helper()
	b, err := image.Pack(m.s)
	if err != api.OK {
		m.t.Fatalf("Pack: %d", err)
	}
	return b
}

// do does an event with the power on, and in a store that has room, and answers what that is answered.
func (m *model) do(e event) []byte {
	switch e.Kind {
	case 1:
		return m.s.Do(e.Bytes)
	case 2:
		_, err := m.s.Tick()
		return []byte{byte(err)}
	case 5:
		return []byte{0}
	}
	return nil
}

// off answers what an event is answered without power.
func off(e event) []byte {
	switch e.Kind {
	case 1:
		r, _ := wire.Asked(e.Bytes)
		return []byte{byte(r.Kind), 12}
	case 2, 5:
		return []byte{12}
	}
	return nil
}

// writes says whether an event may need a sector, of a store whose log isn't full.
func writes(e event) bool {
	r, _ := wire.Asked(e.Bytes)
	return e.Kind == 2 || e.Kind == 5 || e.Kind == 1 && r.Kind >= 1 && r.Kind <= 12
}

// copied answers a script that shares nothing with this one.
func copied(l []event) []event {
	l = slices.Clone(l)
	for i := range l {
		l[i].Bytes, l[i].Kept = slices.Clone(l[i].Bytes), slices.Clone(l[i].Kept)
	}
	return l
}

// same says whether two scripts are the same.
func same(a, b []event) bool {
	return slices.EqualFunc(a, b, func(x, y event) bool {
		return x.Kind == y.Kind && x.N == y.N && bytes.Equal(x.Bytes, y.Bytes) && slices.Equal(x.Kept, y.Kept)
	})
}

// run answers what came of a script, and holds that it has no findings, and what is always so.
func run(t *testing.T, what string, c store.Config, l []event) world.Report {
	t.Helper()
	kept := copied(l)
	r, err := world.Run(c, l)
	if err != api.OK {
		t.Fatalf("%s: Run: %d", what, err)
	}
	if r.Findings != 0 {
		t.Fatalf("%s: %d findings", what, r.Findings)
	}
	if len(r.Answers) != min(len(l), 500) {
		t.Fatalf("%s: %d events have %d answers", what, len(l), len(r.Answers))
	}
	crashes := 0
	for _, e := range l[:min(len(l), 500)] {
		if e.Kind == world.Crash {
			crashes++
		}
	}
	if r.Crashes != crashes {
		t.Fatalf("%s: %d crashes, not %d", what, r.Crashes, crashes)
	}
	if !same(l, kept) {
		t.Fatalf("%s: the script has changed", what)
	}
	return r
}

// isSame says whether two reports are the same.
func isSame(a, b world.Report) bool {
	return slices.EqualFunc(a.Answers, b.Answers, bytes.Equal) && a.Crashes == b.Crashes && a.Findings == b.Findings && bytes.Equal(a.Image, b.Image)
}

// agrees holds that a script without a Cut is answered as by a server that never crashed.
func agrees(t *testing.T, what string, c store.Config, l []event) {
	t.Helper()
	r, m := run(t, what, c, l), fresh(t, c)
	for i, e := range l[:min(len(l), 500)] {
		if want := m.do(e); !bytes.Equal(r.Answers[i], want) {
			t.Fatalf("%s: event %d, %+v: %x, not %x", what, i, e, r.Answers[i], want)
		}
	}
	if want := m.pack(); !bytes.Equal(r.Image, want) {
		t.Fatalf("%s: the Image is\n%x\nnot\n%x", what, r.Image, want)
	}
}

// drawn answers an event by chance, that fits a server more often than not.
func drawn(t *testing.T, r *rand.Rand, s *server.Server) event {
	l := s.Ledger()
	node, number := 3+r.Intn(2), s.Parts().Events.Last()+1
	b := func(x request) event { return ask(t, x) }
	switch n := r.Intn(32); {
	case n < 5:
		return tick
	case n < 10:
		return b(request{Kind: wire.Initial, Session: l.Table().Last() + r.Intn(3), Node: node, Items: []item{{Group: 1 + r.Intn(2), Want: 1 + r.Intn(30)}}})
	case n < 16:
		ids := slices.Concat(l.Table().Ids(), s.Ended(), []int{l.Table().Last() + 1})
		x, _ := l.Table().Get(ids[r.Intn(len(ids))])
		q := request{Kind: wire.Update + r.Intn(4)/3, Session: x.Id, Number: x.Number + 1 - r.Intn(8)/7}
		for _, g := range x.Grants {
			q.Items = append(q.Items, item{Group: g.Group, Used: r.Intn(g.Units + 1), Want: r.Intn(20)})
		}
		return b(q)
	case n < 19:
		return b(request{Kind: wire.Event, Number: number, Node: node, Group: 1 + r.Intn(2), Units: 1 + r.Intn(20)})
	case n < 21:
		return b(request{Kind: wire.Refund, Number: number, Of: max(0, number-1-r.Intn(3))})
	case n < 23:
		return b(request{Kind: wire.Balance + r.Intn(2), Node: r.Intn(5)})
	}
	return []event{
		{Kind: world.Ask, Bytes: []byte{8}}, {Kind: world.Ask}, {Kind: 6 + r.Intn(3)}, compact, crash,
		b(request{Kind: wire.TopUp, Node: r.Intn(6), Amount: 70}),
		b(request{Kind: wire.Limit, Node: r.Intn(6), Limit: []int{-1, 4000}[r.Intn(2)]}),
		b(request{Kind: wire.Roll, Carry: []int{1, 2, 3, 4}}),
		b(request{Kind: wire.Create, Node: r.Intn(12), Parent: r.Intn(4), Sort: 1 + r.Intn(3), Limit: -1}),
		b(request{Kind: wire.Price, Plan: flat(1+r.Intn(4), r.Intn(4))}),
		b(request{Kind: wire.Move, Node: r.Intn(12), Parent: r.Intn(12)}),
		b(request{Kind: wire.Shut, Node: 5 + r.Intn(7)}),
	}[r.Intn(12)]
}

// chances answers what a crash keeps, by chance.
func chances(r *rand.Rand, n int) []bool {
	kept := make([]bool, n)
	for k := range kept {
		kept[k] = r.Intn(2) == 0
	}
	return kept
}

// title answers words for a step of a script.
func title(seed int64, step int) string { return fmt.Sprintf("script %d, step %d", seed, step) }
