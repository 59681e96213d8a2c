package server_test

import (
	"bytes"
	"fmt"
	"math/rand"
	"slices"
	"testing"

	"purser/api"
	"purser/ledger"
	"purser/server"
	"purser/wire"
)

// kept is a request that was answered.
type kept struct {
	number          int
	request, answer string
}

// row is all that was ever kept, of a session or of events: the last ones are known.
type row struct {
	all    []kept
	most   int
	strict bool
}

// look answers what is known of a request.
func (w *row) look(number int, b []byte) (string, api.Errno) {
	for _, k := range w.all[max(0, len(w.all)-w.most):] {
		if k.number == number && k.request == string(b) {
			return k.answer, api.OK
		}
		if k.number == number {
			return "", api.ErrClash
		}
	}
	last := -1
	if len(w.all) > 0 {
		last = w.all[len(w.all)-1].number
	}
	switch {
	case number <= last:
		return "", api.ErrStale
	case w.strict && number > last+1:
		return "", api.ErrOrder
	}
	return "", api.ErrMiss
}

func (w *row) keep(number int, b, told []byte) {
	w.all = append(w.all, kept{number, string(b), string(told)})
}

// model is what a server has to answer, by a ledger of its own.
type model struct {
	l        *ledger.Ledger
	sessions map[int]*row
	events   *row
	over     []int
}

// ended answers the sessions that are over, and known.
func (m *model) ended() []int { return m.over[max(0, len(m.over)-8):] }

// do answers a request's bytes.
func (m *model) do(t *testing.T, b []byte) []byte {
	t.Helper()
	r, err := wire.Asked(b)
	if err != api.OK {
		return tell(t, answer{Err: api.ErrForm})
	}
	var w *row
	switch r.Kind {
	case wire.Event, wire.Refund:
		w = m.events
	case wire.Initial, wire.Update, wire.Terminate:
		_, open := m.l.Table().Get(r.Session)
		isOver := slices.Contains(m.ended(), r.Session)
		if open == api.OK || isOver {
			w = m.sessions[r.Session]
		} else if r.Session <= m.l.Table().Last() {
			return tell(t, answer{Kind: r.Kind, Err: api.ErrStale})
		}
		if w != nil && isOver {
			if _, err := w.look(r.Number, b); err == api.ErrMiss {
				return tell(t, answer{Kind: r.Kind, Err: api.ErrClosed})
			}
		}
	}
	if w != nil {
		told, err := w.look(r.Number, b)
		if err == api.OK {
			return []byte(told)
		}
		if err != api.ErrMiss {
			return tell(t, answer{Kind: r.Kind, Err: err})
		}
	}
	a := m.l.Do(r)
	told := tell(t, a)
	if a.Err != api.OK {
		return told
	}
	if r.Kind == wire.Initial {
		w = &row{most: 4, strict: true}
		m.sessions[r.Session] = w
	}
	if w != nil {
		w.keep(r.Number, b, told)
	}
	if r.Kind == wire.Terminate {
		m.over = append(m.over, r.Session)
	}
	return told
}

// writer makes up requests that fit what a server has, more often than not.
type writer struct {
	*rand.Rand
	s *server.Server
}

// next answers a request.
func (w *writer) next() request {
	table := w.s.Ledger().Table()
	id := table.Last() + 1 + w.Intn(2)
	if w.Intn(8) == 0 {
		id = w.Intn(id + 2)
	}
	number := max(0, w.s.Parts().Events.Last()+1+w.Intn(3)-w.Intn(12)/9*w.Intn(9))
	switch n := w.Intn(20); {
	case n < 5:
		r := initial(id, 1+w.Intn(3))
		r.Node = 2 + w.Intn(3)
		return r
	case n < 14:
		// Of those that are over as well, now and then.
		ids := append(table.Ids(), table.Ids()...)
		ids = append(append(ids, w.s.Ended()...), id)
		id = ids[w.Intn(len(ids))]
		s, _ := table.Get(id)
		number := max(0, s.Number+1+w.Intn(10)/9-w.Intn(8)/7*w.Intn(6))
		if w.Intn(4) == 0 {
			return terminate(id, number, w.Intn(3))
		}
		return update(id, number, w.Intn(3), w.Intn(4))
	case n < 17:
		return event(number, w.Intn(5))
	case n < 18:
		return refund(number, max(0, number-w.Intn(9)))
	}
	return []request{
		{Kind: wire.TopUp, Node: w.Intn(5), Amount: 50}, {Kind: wire.Balance, Node: w.Intn(5)}, {Kind: wire.Roll, Carry: []int{1, 2, 3, 4}},
		{Kind: wire.Limit, Node: w.Intn(5), Limit: 400}, {Kind: wire.Price, Plan: flat(1, w.Intn(4))}, {Kind: wire.Bill, Node: 1},
	}[w.Intn(6)]
}

// agrees holds that a server is what the model says.
func agrees(t *testing.T, what string, s *server.Server, m *model) {
	t.Helper()
	if got, want := state(s.Ledger()), state(m.l); got != want {
		t.Fatalf("%s: the ledger is\n%s\nnot\n%s", what, got, want)
	}
	if !slices.Equal(s.Ended(), m.ended()) {
		t.Fatalf("%s: %v are over, not %v", what, s.Ended(), m.ended())
	}
	p := s.Parts()
	known := slices.Sorted(slices.Values(slices.Concat(m.l.Table().Ids(), m.ended())))
	if len(p.Sessions) != len(known) {
		t.Fatalf("%s: %v are known, not %v", what, p.Sessions, known)
	}
	for i, k := range p.Sessions {
		w := m.sessions[known[i]]
		if k.Id != known[i] || k.Window.Len() != min(4, len(w.all)) || k.Window.Last() != len(w.all)-1 {
			t.Fatalf("%s: %d: %d kept, up to %d, not %d of %d", what, k.Id, k.Window.Len(), k.Window.Last(), len(w.all), known[i])
		}
	}
	if p.Events.Len() != min(16, len(m.events.all)) {
		t.Fatalf("%s: %d events are kept, not %d", what, p.Events.Len(), len(m.events.all))
	}
}

func TestP24_1_ScriptsAsTheModelSays(t *testing.T) {
	seen := map[string]int{}
	for seed := range int64(100) {
		random := rand.New(rand.NewSource(seed))
		c := ledger.Config{Validity: 1 + random.Intn(5), Places: 1 + random.Intn(5), Day: 24}
		twin, _ := ledger.New(c)
		s, m := made(t, c), &model{l: twin, sessions: map[int]*row{}, events: &row{most: 16}}
		w := &writer{random, s}
		var before [][]byte
		for i := range 400 {
			what := fmt.Sprintf("script %d, step %d", seed, i)
			if i >= len(laid()) && random.Intn(8) == 0 {
				over, err := s.Tick()
				want, _ := m.l.Tick()
				if !slices.Equal(over, want) || err != api.OK {
					t.Fatalf("%s: over: %v, %d, not %v", what, over, err, want)
				}
				m.over = append(m.over, want...)
				agrees(t, what, s, m)
				continue
			}
			b := ask(t, w.next())
			switch {
			case i < len(laid()):
				b = ask(t, laid()[i])
			case random.Intn(5) == 0:
				b = before[max(len(before)-1-random.Intn(9), 0)]
			case random.Intn(20) == 0:
				b = before[random.Intn(len(before))]
			case random.Intn(30) == 0:
				b = append(slices.Clone(b), 1)[random.Intn(2):]
			}
			before = append(before, b)
			got, want := s.Do(b), m.do(t, b)
			if !bytes.Equal(got, want) {
				t.Fatalf("%s: %x: %x, not %x", what, b, got, want)
			}
			a, _ := wire.Told(got)
			seen[fmt.Sprint(a.Kind, " ", a.Err)]++
			agrees(t, what, s, m)
			if random.Intn(30) == 0 {
				s, _ = server.Make(s.Parts())
				w.s = s
				agrees(t, what+", made again", s, m)
			}
		}
	}
	for _, what := range []string{
		"0 2", "1 0", "1 10", "1 13", "1 14", "1 21", "2 0", "2 7", "2 13", "2 14", "2 15", "2 16", "2 19", "3 0", "3 7", "3 13", "3 14", "3 15", "3 16", "3 19",
		"4 0", "4 1", "4 13", "4 14", "5 0", "5 8", "5 13", "5 14", "9 0", "10 0", "11 0", "12 0", "13 0", "14 0",
	} {
		if seen[what] < 5 {
			t.Errorf("%s: only %d times", what, seen[what])
		}
	}
}
