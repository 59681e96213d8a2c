package server_test

import (
	"bytes"
	"fmt"
	"math/rand"
	"reflect"
	"slices"
	"strings"
	"testing"

	"purser/api"
	"purser/credit"
	"purser/ledger"
	"purser/server"
	"purser/tariff"
	"purser/window"
	"purser/wire"
)

type (
	request = wire.Request
	answer  = wire.Answer
	item    = wire.Item
)

// some is a config for most tests.
var some = ledger.Config{Validity: 5, Places: 16, Day: 24}

// flat answers a plan of one tier.
func flat(group, price int) tariff.Plan {
	return tariff.Plan{Base: api.Tariff{Group: group, Mode: api.Graduated, Block: 1, Tiers: []api.Tier{{Price: price}}}}
}

// ask answers a request's bytes.
func ask(t *testing.T, r request) []byte {
	t.Helper()
	b, err := wire.Ask(r)
	if err != api.OK {
		t.Fatalf("Ask(%+v): %d", r, err)
	}
	return b
}

// tell answers an answer's bytes.
func tell(t *testing.T, a answer) []byte {
	t.Helper()
	b, err := wire.Tell(a)
	if err != api.OK {
		t.Fatalf("Tell(%+v): %d", a, err)
	}
	return b
}

// does holds that a request is answered without an error.
func does(t *testing.T, s *server.Server, r request) answer {
	t.Helper()
	a, err := wire.Told(s.Do(ask(t, r)))
	if a.Kind != r.Kind || a.Err != api.OK || err != api.OK {
		t.Fatalf("%+v: %+v, %d", r, a, err)
	}
	return a
}

// refuses holds that a request is answered with an error, and changes nothing.
func refuses(t *testing.T, what string, s *server.Server, r request, want api.Errno) {
	t.Helper()
	before := dump(s)
	if b, refused := s.Do(ask(t, r)), tell(t, answer{Kind: r.Kind, Err: want}); !bytes.Equal(b, refused) {
		t.Errorf("%s: %+v: %x, not %x", what, r, b, refused)
	}
	if dump(s) != before {
		t.Errorf("%s: %+v has changed something", what, r)
	}
}

// repeats holds that a copy of a request is answered as before, and changes nothing.
func repeats(t *testing.T, what string, s *server.Server, r request, want answer) {
	t.Helper()
	before := dump(s)
	if b := s.Do(ask(t, r)); !bytes.Equal(b, tell(t, want)) {
		t.Errorf("%s: %+v: %x, not %x", what, r, b, tell(t, want))
	}
	if dump(s) != before {
		t.Errorf("%s: %+v has changed something", what, r)
	}
}

// state answers all that a ledger tells.
func state(l *ledger.Ledger) string {
	var b strings.Builder
	p := l.Parts()
	fmt.Fprintln(&b, p.Config, p.Now, p.Plans, p.Rhythms, p.Past, l.Purse().Journal().Len(), l.Purse().Journal().Period())
	for _, id := range l.Tree().Ids() {
		n, _ := l.Tree().Get(id)
		fmt.Fprintln(&b, n, l.Purse().Get(id))
	}
	sheet, _ := l.Sheet().Write()
	table, _ := l.Table().Write()
	fmt.Fprintf(&b, "%x\n%x\n", sheet, table)
	return b.String()
}

// dump answers all that a server tells.
func dump(s *server.Server) string {
	var b strings.Builder
	p := s.Parts()
	fmt.Fprintln(&b, state(s.Ledger()), s.Ended(), p.Ended)
	for _, k := range p.Sessions {
		w, _ := k.Window.Write()
		fmt.Fprintf(&b, "%d %x\n", k.Id, w)
	}
	events, _ := p.Events.Write()
	fmt.Fprintf(&b, "%x\n", events)
	return b.String()
}

// laid are requests that lay nodes, funds and plans.
func laid() []request {
	var l []request
	for i := 1; i <= 4; i++ {
		l = append(l, request{Kind: wire.Create, Node: i, Parent: min(i-1, 2), Sort: min(i, 3), Limit: -1}, request{Kind: wire.TopUp, Node: i, Amount: 1000})
	}
	return append(l, request{Kind: wire.Price, Plan: flat(1, 3)}, request{Kind: wire.Price, Plan: flat(2, 0)})
}

// made answers a new server.
func made(t *testing.T, c ledger.Config) *server.Server {
	t.Helper()
	s, err := server.New(c)
	if err != api.OK {
		t.Fatalf("New(%+v): %d", c, err)
	}
	return s
}

// begin answers a server with an organization, a team and two projects, that have funds, and with plans of two groups.
func begin(t *testing.T, c ledger.Config) *server.Server {
	t.Helper()
	s := made(t, c)
	for _, r := range laid() {
		does(t, s, r)
	}
	return s
}

// initial, update and terminate answer a session's requests, event and refund others.
func initial(id, want int) request {
	return request{Kind: wire.Initial, Session: id, Node: 3, Items: []item{{Group: 1, Want: want}}}
}

func update(id, number, used, want int) request {
	return request{Kind: wire.Update, Session: id, Number: number, Items: []item{{Group: 1, Used: used, Want: want}}}
}

func terminate(id, number, used int) request {
	return request{Kind: wire.Terminate, Session: id, Number: number, Items: []item{{Group: 1, Used: used}}}
}

func event(number, units int) request {
	return request{Kind: wire.Event, Number: number, Node: 3, Group: 1, Units: units}
}

func refund(number, of int) request { return request{Kind: wire.Refund, Number: number, Of: of} }

// ticks lets so many steps of time go by, and answers who is over by them.
func ticks(t *testing.T, s *server.Server, n int) []int {
	t.Helper()
	var all []int
	for range n {
		over, err := s.Tick()
		if err != api.OK {
			t.Fatalf("Tick: %d", err)
		}
		all = append(all, over...)
	}
	return all
}

func TestP24_1_Configs(t *testing.T) {
	for _, c := range []ledger.Config{{}, {Validity: 0, Places: 1, Day: 4}, {Validity: 1, Places: 17, Day: 4}, {Validity: 1, Places: 1, Day: 3}} {
		if s, err := server.New(c); s != nil || err != api.ErrArg {
			t.Errorf("%+v: %v, %d", c, s, err)
		}
	}
	s := made(t, some)
	if s.Ledger().Config() != some || len(s.Ended()) != 0 || len(s.Parts().Sessions) != 0 || s.Parts().Events.Len() != 0 {
		t.Errorf("%+v", s.Parts())
	}
}

func TestP24_1_TheChaptersExample(t *testing.T) {
	s := begin(t, some)
	a := does(t, s, initial(1, 10))
	if a.Grants[0].Amount != 30 || a.Deadline != 5 {
		t.Errorf("%+v", a)
	}
	repeats(t, "twice", s, initial(1, 10), a)
	if ids := s.Ledger().Table().Ids(); !slices.Equal(ids, []int{1}) || s.Ledger().Purse().Get(1).Held != 30 {
		t.Errorf("%v", ids)
	}
}

func TestP24_1_BytesOfNone(t *testing.T) {
	s := begin(t, some)
	does(t, s, initial(1, 10))
	before := dump(s)
	sample := ask(t, update(1, 1, 2, 3))
	l := [][]byte{nil, {0}, {15}, {8}, {8, 3, 0}, {255}, bytes.Repeat([]byte{1}, 1000), tell(t, answer{Kind: 15 - 1, Err: 1})}
	for i := range sample {
		l = append(l, sample[:i])
	}
	for _, b := range append(l, append(sample, 0)) {
		if got := s.Do(b); !bytes.Equal(got, []byte{0, byte(api.ErrForm)}) {
			t.Errorf("%x: %x", b, got)
		}
	}
	if dump(s) != before {
		t.Errorf("something has changed")
	}
}

func TestP24_1_OthersAreNewAlways(t *testing.T) {
	s := begin(t, some)
	for i := range 3 {
		does(t, s, request{Kind: wire.TopUp, Node: 1, Amount: 7})
		if a := does(t, s, request{Kind: wire.Balance, Node: 1}); a.Available != 1007+7*i {
			t.Errorf("%+v", a)
		}
		if a := does(t, s, request{Kind: wire.Roll, Carry: []int{1}}); a.Expired != []int{3000, 0, 0}[i] {
			t.Errorf("%+v", a)
		}
	}
	refuses(t, "there already", s, request{Kind: wire.Create, Node: 1, Sort: 1, Limit: -1}, api.ErrThere)
	if s.Parts().Events.Len() != 0 || len(s.Parts().Sessions) != 0 {
		t.Errorf("%+v", s.Parts())
	}
}

// A session that isn't known is stale, if its number isn't above the last one; else the ledger tells of it.
func TestP24_1_SessionsThatArentKnown(t *testing.T) {
	s := begin(t, some)
	for _, r := range []request{update(0, 1, 0, 0), terminate(0, 1, 0), initial(0, 1)} {
		refuses(t, "number 0", s, r, api.ErrStale)
	}
	does(t, s, initial(5, 1))
	for _, id := range []int{0, 1, 4} {
		for _, r := range []request{initial(id, 1), update(id, 0, 0, 0), update(id, 1, 0, 0), terminate(id, 9, 0)} {
			refuses(t, "never there", s, r, api.ErrStale)
		}
	}
	for _, id := range []int{6, 1 << 62} {
		for _, r := range []request{update(id, 0, 0, 0), update(id, 1, 0, 0), terminate(id, 1, 0)} {
			refuses(t, "not yet there", s, r, api.ErrMiss)
		}
	}
	r := initial(6, 1)
	r.Node = 2
	refuses(t, "no project", s, r, api.ErrKind)
	does(t, s, initial(6, 1))
}

func TestP24_1_NumbersOfASession(t *testing.T) {
	s := begin(t, some)
	a := does(t, s, initial(5, 1))
	refuses(t, "an Initial of other bytes", s, initial(5, 2), api.ErrClash)
	refuses(t, "number 0", s, update(5, 0, 0, 0), api.ErrClash)
	refuses(t, "number 2", s, update(5, 2, 0, 0), api.ErrOrder)
	refuses(t, "a great number", s, terminate(5, 1<<62, 0), api.ErrOrder)
	repeats(t, "the Initial", s, initial(5, 1), a)
	// What is refused may be asked again, with other bytes, too.
	refuses(t, "too much", s, update(5, 1, 2, 0), api.ErrUsed)
	refuses(t, "too much", s, terminate(5, 1, 2), api.ErrUsed)
	refuses(t, "too much", s, update(5, 1, 2, 0), api.ErrUsed)
	a = does(t, s, update(5, 1, 1, 4))
	if a.Cost != 3 {
		t.Errorf("%+v", a)
	}
	repeats(t, "an Update", s, update(5, 1, 1, 4), a)
	refuses(t, "an Update of other bytes", s, update(5, 1, 1, 5), api.ErrClash)
	refuses(t, "another kind", s, terminate(5, 1, 1), api.ErrClash)
	refuses(t, "too much", s, update(5, 1, 2, 0), api.ErrClash)
}

// An answer is known till four came behind it.
func TestP24_2_CopiesInsideTheWindow(t *testing.T) {
	s := begin(t, some)
	requests := []request{initial(7, 2)}
	answers := []answer{does(t, s, requests[0])}
	for number := 1; number <= 9; number++ {
		requests = append(requests, update(7, number, number%3, 2))
		answers = append(answers, does(t, s, requests[number]))
		ticks(t, s, 1)
		for k, r := range requests {
			other := update(7, k, 0, 99)
			if k > number-4 {
				repeats(t, "inside", s, r, answers[k])
				refuses(t, "inside, of other bytes", s, other, api.ErrClash)
			} else {
				refuses(t, "behind", s, r, api.ErrStale)
				refuses(t, "behind, of other bytes", s, other, api.ErrStale)
			}
		}
		refuses(t, "too far", s, update(7, number+2, 0, 0), api.ErrOrder)
	}
	requests, answers = append(requests, terminate(7, 10, 1)), append(answers, does(t, s, terminate(7, 10, 1)))
	for k, r := range requests {
		if k > 6 {
			repeats(t, "over, inside", s, r, answers[k])
		} else {
			refuses(t, "over, behind", s, r, api.ErrStale)
		}
	}
	refuses(t, "over", s, update(7, 11, 0, 0), api.ErrClosed)
	refuses(t, "over", s, terminate(7, 11, 0), api.ErrClosed)
	refuses(t, "over, too far", s, update(7, 12, 0, 0), api.ErrOrder)
	refuses(t, "over, of other bytes", s, update(7, 10, 1, 0), api.ErrClash)
	refuses(t, "over, an Initial", s, initial(7, 9), api.ErrStale)
}

// Events and refunds have one window of sixteen.
func TestP24_2_EventsInsideTheWindow(t *testing.T) {
	s := begin(t, some)
	var requests []request
	var answers []answer
	for i := range 20 {
		r := event(10+3*i, i+1)
		if i%4 == 3 {
			r = refund(10+3*i, 10+3*(i-1))
		}
		if i == 8 {
			// What is refused isn't kept.
			refuses(t, "no credit", s, event(10+3*i, 999), api.ErrCredit)
			refuses(t, "none such", s, refund(10+3*i, 1), api.ErrStale)
		}
		requests, answers = append(requests, r), append(answers, does(t, s, r))
		for k, r := range requests {
			other := r
			other.Kind, other.Of = wire.Refund, 77
			if k > i-16 {
				repeats(t, "inside", s, r, answers[k])
				refuses(t, "inside, of other bytes", s, other, api.ErrClash)
			} else {
				refuses(t, "behind", s, r, api.ErrStale)
				refuses(t, "behind, of other bytes", s, other, api.ErrStale)
			}
		}
		for _, number := range []int{0, 9, 10 + 3*i - 1} {
			refuses(t, "a number between", s, event(number, 1), api.ErrStale)
			refuses(t, "a number between", s, refund(number, 10), api.ErrStale)
		}
	}
	if s.Parts().Events.Len() != 16 || len(s.Ledger().Past()) != 15 {
		t.Errorf("%d kept, %d past", s.Parts().Events.Len(), len(s.Ledger().Past()))
	}
	does(t, s, event(1<<62, 1))
	refuses(t, "behind the last number", s, event(70, 1), api.ErrStale)
}

// A copy changes no later answer: a server that is asked all twice answers as one that isn't.
func TestP24_2_CopiesChangeNoLaterAnswer(t *testing.T) {
	for seed := range int64(40) {
		random := rand.New(rand.NewSource(seed))
		c := ledger.Config{Validity: 1 + random.Intn(5), Places: 1 + random.Intn(4), Day: 24}
		one, two := made(t, c), made(t, c)
		w := &writer{random, one}
		for i := range 200 {
			if i >= len(laid()) && random.Intn(6) == 0 {
				a, _ := one.Tick()
				b, _ := two.Tick()
				if !slices.Equal(a, b) {
					t.Fatalf("script %d, step %d: %v and %v", seed, i, a, b)
				}
				continue
			}
			r := w.next()
			if i < len(laid()) {
				r = laid()[i]
			}
			b := ask(t, r)
			a, other := one.Do(b), two.Do(b)
			if told, _ := wire.Told(a); told.Err == api.OK && r.Kind <= wire.Refund {
				again := two.Do(b)
				if !bytes.Equal(again, other) {
					t.Fatalf("script %d, step %d: %+v: %x, then %x", seed, i, r, other, again)
				}
			}
			if !bytes.Equal(a, other) || dump(one) != dump(two) {
				t.Fatalf("script %d, step %d: %+v: %x and %x", seed, i, r, a, other)
			}
		}
	}
}

// Of the sessions that are over eight are known, whatever they were over by.
func TestP24_3_SessionsThatAreOver(t *testing.T) {
	for _, by := range []string{"Terminate", "Tick", "both"} {
		s := begin(t, some)
		var firsts []answer
		for id := 1; id <= 12; id++ {
			firsts = append(firsts, does(t, s, initial(id, 2)))
		}
		repeats(t, "open", s, initial(1, 2), firsts[0])
		refuses(t, "open", s, initial(1, 3), api.ErrClash)
		var ended []int
		for id := 12; id >= 1; id-- {
			if by == "Terminate" || by == "both" && id%2 == 0 {
				does(t, s, terminate(id, 1, 1))
				ended = append(ended, id)
			}
		}
		ended = append(ended, ticks(t, s, 6)...)
		if len(ended) != 12 || !slices.Equal(s.Ended(), ended[4:]) {
			t.Fatalf("%s: %v are over, %v known", by, ended, s.Ended())
		}
		for i, id := range ended {
			if i < 4 {
				for _, r := range []request{initial(id, 2), initial(id, 3), terminate(id, 1, 1), update(id, 1, 0, 0), update(id, 2, 0, 0)} {
					refuses(t, by+", forgotten", s, r, api.ErrStale)
				}
				continue
			}
			repeats(t, by+", known", s, initial(id, 2), firsts[id-1])
			refuses(t, by+", known", s, initial(id, 3), api.ErrClash)
			refuses(t, by+", too far", s, update(id, 9, 0, 0), api.ErrOrder)
			if by == "Terminate" || by == "both" && id%2 == 0 {
				repeats(t, by+", known", s, terminate(id, 1, 1), answer{Kind: wire.Terminate, Cost: 3})
				refuses(t, by+", known", s, terminate(id, 1, 0), api.ErrClash)
				refuses(t, by+", closed", s, update(id, 2, 0, 0), api.ErrClosed)
			} else {
				refuses(t, by+", closed", s, update(id, 1, 0, 0), api.ErrClosed)
				refuses(t, by+", closed", s, terminate(id, 1, 0), api.ErrClosed)
			}
		}
		if got := s.Parts(); !slices.Equal(got.Ended, ended[4:]) || len(got.Sessions) != 8 {
			t.Errorf("%s: %+v", by, got)
		}
	}
}

// Eight that are over are all known; with one more the eldest goes.
func TestP24_3_EightAndOneMore(t *testing.T) {
	s := begin(t, some)
	for id := 1; id <= 9; id++ {
		does(t, s, initial(id, 1))
	}
	for id := 1; id <= 8; id++ {
		does(t, s, terminate(id, 1, 0))
	}
	if !slices.Equal(s.Ended(), []int{1, 2, 3, 4, 5, 6, 7, 8}) {
		t.Errorf("%v", s.Ended())
	}
	refuses(t, "known", s, update(1, 2, 0, 0), api.ErrClosed)
	if over := ticks(t, s, 6); !slices.Equal(over, []int{9}) || !slices.Equal(s.Ended(), []int{2, 3, 4, 5, 6, 7, 8, 9}) {
		t.Errorf("%v, %v", over, s.Ended())
	}
	refuses(t, "forgotten", s, update(1, 2, 0, 0), api.ErrStale)
	refuses(t, "forgotten", s, initial(1, 1), api.ErrStale)
	does(t, s, initial(10, 1))
}

func TestP24_1_TheLastTime(t *testing.T) {
	p := begin(t, some).Parts()
	parts := p.Ledger.Parts()
	parts.Now = 1 << 61
	l, err := ledger.Make(parts)
	if err != api.OK {
		t.Fatal(err)
	}
	p.Ledger = l
	s, err := server.Make(p)
	if err != api.OK {
		t.Fatal(err)
	}
	does(t, s, initial(1, 1))
	before := dump(s)
	if over, err := s.Tick(); len(over) != 0 || err != api.ErrOver || dump(s) != before {
		t.Errorf("%v, %d", over, err)
	}
}

func TestP24_1_PartsAndMake(t *testing.T) {
	s := begin(t, some)
	for id := 3; id <= 12; id += 3 {
		does(t, s, initial(id, 2))
	}
	does(t, s, update(9, 1, 1, 1))
	does(t, s, terminate(6, 1, 2))
	does(t, s, terminate(3, 1, 2))
	does(t, s, event(1, 1))
	p := s.Parts()
	var ids []int
	for _, k := range p.Sessions {
		ids = append(ids, k.Id)
	}
	if !slices.Equal(ids, []int{3, 6, 9, 12}) || !slices.Equal(p.Ended, []int{6, 3}) || p.Ledger != s.Ledger() || p.Events.Len() != 1 {
		t.Errorf("%+v", p)
	}
	m, err := server.Make(p)
	if err != api.OK || !reflect.DeepEqual(m.Parts(), p) || dump(m) != dump(s) {
		t.Errorf("%d, %+v, not %+v", err, m.Parts(), p)
	}
	repeats(t, "made again", m, terminate(3, 1, 2), answer{Kind: wire.Terminate, Cost: 6})
	repeats(t, "made again", m, event(1, 1), answer{Kind: wire.Event, Cost: 3})
	refuses(t, "made again", m, update(6, 2, 0, 0), api.ErrClosed)
	does(t, m, update(9, 2, 1, 1))
}

func TestP24_1_WhatMakeRefuses(t *testing.T) {
	fresh := func() *window.Window {
		w, _ := window.New(4, true)
		return w
	}
	for what, bend := range map[string]func(p *server.Parts){
		"no Ledger":          func(p *server.Parts) { p.Ledger = nil },
		"no Events":          func(p *server.Parts) { p.Events = nil },
		"no Window":          func(p *server.Parts) { p.Sessions[1].Window = nil },
		"they don't rise":    func(p *server.Parts) { p.Sessions[0], p.Sessions[1] = p.Sessions[1], p.Sessions[0] },
		"one is missing":     func(p *server.Parts) { p.Sessions = p.Sessions[1:] },
		"an open is missing": func(p *server.Parts) { p.Sessions = p.Sessions[:3] },
		"none":               func(p *server.Parts) { p.Sessions = nil },
		"one more":           func(p *server.Parts) { p.Sessions = append(p.Sessions, server.Known{Id: 77, Window: fresh()}) },
		"one twice":          func(p *server.Parts) { p.Sessions = slices.Insert(p.Sessions, 1, p.Sessions[0]) },
		"an Ended is gone":   func(p *server.Parts) { p.Ended = p.Ended[1:] },
		"no Ended":           func(p *server.Parts) { p.Ended = nil },
		"an Ended twice":     func(p *server.Parts) { p.Ended = append(p.Ended, p.Ended[0]) },
		"an open one Ended":  func(p *server.Parts) { p.Ended = append(p.Ended, 4) },
		"an Ended twice, and known twice": func(p *server.Parts) {
			p.Ended, p.Sessions = append(p.Ended, 1), slices.Insert(p.Sessions, 1, p.Sessions[0])
		},
		"another Ended": func(p *server.Parts) { p.Ended[0] = 77 },
		"nine Ended": func(p *server.Parts) {
			for id := 21; id <= 27; id++ {
				p.Ended, p.Sessions = append(p.Ended, id), append(p.Sessions, server.Known{Id: id, Window: fresh()})
			}
		},
	} {
		s := begin(t, some)
		for id := 1; id <= 4; id++ {
			does(t, s, initial(id, 1))
		}
		does(t, s, terminate(2, 1, 0))
		does(t, s, terminate(1, 1, 0))
		p := s.Parts()
		bend(&p)
		if m, err := server.Make(p); m != nil || err != api.ErrArg {
			t.Errorf("%s: %v, %d", what, m, err)
		}
	}
	if m, err := server.Make(server.Parts{}); m != nil || err != api.ErrArg {
		t.Errorf("nothing: %v, %d", m, err)
	}
	p := made(t, some).Parts()
	for id := 21; id <= 28; id++ {
		p.Ended, p.Sessions = append(p.Ended, id), append(p.Sessions, server.Known{Id: id, Window: fresh()})
	}
	if m, err := server.Make(p); err != api.OK || len(m.Ended()) != 8 {
		t.Errorf("eight Ended: %d", err)
	}
}

func TestP24_1_PartsThatDontFit(t *testing.T) {
	l := begin(t, some).Ledger()
	parts := l.Parts()
	parts.Past = []ledger.Past{{Number: 5, Node: 3, Group: 1, Cost: -5}}
	parts.Table.Add(credit.Session{Id: 1, Node: 3, Number: 7, Deadline: 9})
	l, err := ledger.Make(parts)
	if err != api.OK {
		t.Fatal(err)
	}
	s, err := server.Make(server.Parts{Ledger: l, Sessions: []server.Known{{Id: 1, Window: &window.Window{}}}, Events: &window.Window{}})
	if err != api.OK {
		t.Fatal(err)
	}
	// What such a ledger answers may have no bytes.
	if b := s.Do(ask(t, refund(1, 5))); !bytes.Equal(b, tell(t, answer{Kind: wire.Refund, Err: api.ErrForm})) {
		t.Errorf("%x", b)
	}
	for _, r := range []request{initial(1, 1), update(1, 1, 0, 0), update(1, 8, 0, 0), terminate(1, 9, 0), initial(2, 1), event(1, 1)} {
		if a, err := wire.Told(s.Do(ask(t, r))); a.Kind != r.Kind || err != api.OK {
			t.Errorf("%+v: %+v, %d", r, a, err)
		}
	}
	ticks(t, s, 20)
}

func TestP24_1_NoServer(t *testing.T) {
	for _, s := range []*server.Server{nil, {}} {
		for _, b := range [][]byte{nil, {0}, ask(t, initial(1, 1)), ask(t, event(1, 1)), ask(t, request{Kind: wire.Roll})} {
			if got := s.Do(b); !bytes.Equal(got, []byte{0, byte(api.ErrArg)}) {
				t.Errorf("%x: %x", b, got)
			}
		}
		if over, err := s.Tick(); over != nil || err != api.ErrArg {
			t.Errorf("Tick: %v, %d", over, err)
		}
		if s.Ledger() != nil || len(s.Ended()) != 0 || !reflect.DeepEqual(s.Parts(), server.Parts{}) {
			t.Errorf("a server that is none has parts: %+v", s.Parts())
		}
	}
}

func TestP24_4_NothingIsChangedOrKept(t *testing.T) {
	s := begin(t, some)
	for _, r := range []request{initial(1, 2), update(1, 1, 1, 2), event(1, 2), refund(2, 1), terminate(1, 2, 1)} {
		b := append(ask(t, r), 77)
		kept := slices.Clone(b)
		told := s.Do(b[: len(b)-1 : len(b)])
		if !bytes.Equal(b, kept) {
			t.Errorf("%+v: %x is %x now", r, kept, b)
		}
		want := slices.Clone(told)
		clear(b)
		clear(told[:cap(told)])
		again := s.Do(ask(t, r))
		if !bytes.Equal(again, want) {
			t.Errorf("%+v: %x, then %x", r, want, again)
		}
		clear(again[:cap(again)])
		if more := s.Do(ask(t, r)); !bytes.Equal(more, want) {
			t.Errorf("%+v: %x, then %x", r, want, more)
		}
	}
	before := dump(s)
	ended := s.Ended()
	clear(ended[:cap(ended)])
	p := s.Parts()
	m, err := server.Make(p)
	if err != api.OK {
		t.Fatal(err)
	}
	clear(p.Ended)
	clear(p.Sessions)
	if dump(s) != before || dump(m) != before {
		t.Errorf("it was\n%s\nand is\n%s\nand\n%s", before, dump(s), dump(m))
	}
}
