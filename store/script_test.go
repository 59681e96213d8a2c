package store_test

import (
	"bytes"
	"fmt"
	"math/rand"
	"slices"
	"testing"

	"purser/api"
	"purser/disk"
	"purser/ledger"
	"purser/store"
)

// player runs one script on a store, on its disk, and on the model.
type player struct {
	*rand.Rand
	t    *testing.T
	s    *store.Store
	d    *disk.Disk
	m    *model
	seen map[string]int
}

// copied answers a list that shares nothing with this one.
func copied(l [][]byte) [][]byte {
	var c [][]byte
	for _, b := range l {
		c = append(c, slices.Clone(b))
	}
	return c
}

// one does a request or a tick by the calls for these.
func (p *player) one(what string, b []byte) {
	p.t.Helper()
	if len(b) > 0 {
		kept := slices.Clone(b)
		got, want := p.s.Do(b), p.m.batchOf(b)
		if !bytes.Equal(got, want) || !bytes.Equal(b, kept) {
			p.t.Fatalf("%s: Do(%x): %x, not %x", what, kept, got, want)
		}
		p.seen[fmt.Sprint("Do ", got[1])]++
		return
	}
	over, err := p.s.Tick()
	before := p.m.s.Ledger().Table().Ids()
	want := p.m.batchOf(nil)
	left := slices.DeleteFunc(before, func(id int) bool { return slices.Contains(p.m.s.Ledger().Table().Ids(), id) })
	slices.Sort(over)
	if err != api.Errno(want[0]) || !slices.Equal(over, left) {
		p.t.Fatalf("%s: Tick: %v, %d, not %v, %d", what, over, err, left, want[0])
	}
	p.seen[fmt.Sprint("Tick ", err)]++
}

// batchOf does what is done by itself: of what only asks no room is asked.
func (m *model) batchOf(b []byte) []byte {
	if record(b) == nil {
		a, _ := m.run(b)
		return a
	}
	return m.batch([][]byte{b})[0]
}

// many does a Batch.
func (p *player) many(what string) {
	p.t.Helper()
	var l [][]byte
	for range p.Intn(7) {
		l = append(l, draw(p.t, p.Rand, p.m.s))
	}
	kept := copied(l)
	got, want := p.s.Batch(l), p.m.batch(l)
	if !slices.EqualFunc(got, want, bytes.Equal) || !slices.EqualFunc(l, kept, bytes.Equal) {
		p.t.Fatalf("%s: Batch(%x): %x, not %x", what, kept, got, want)
	}
	for _, a := range got {
		p.seen[fmt.Sprint("Batch ", a[len(a)-1])]++
	}
}

// step does something, and holds that all is as the model says.
func (p *player) step(what string, first []byte) {
	p.t.Helper()
	gen := p.m.gen
	switch n := p.Intn(20); {
	case first != nil:
		p.one(what, first)
	case n < 12:
		p.one(what, draw(p.t, p.Rand, p.m.s))
	case n < 17:
		p.many(what)
	case n < 18:
		if got, want := p.s.Compact(), p.m.compact(); got != want {
			p.t.Fatalf("%s: Compact: %d, not %d", what, got, want)
		}
	case n < 19:
		p.d.Crash(nil)
	default:
		p.s = opened(p.t, what, p.d, p.m.c)
	}
	if p.m.gen > gen {
		p.seen["compacted"]++
	}
	p.m.agrees(what, p.s, p.d)
}

func TestP26_1_ScriptsAsTheModelSays(t *testing.T) {
	seen := map[string]int{}
	for seed := range int64(60) {
		r := rand.New(rand.NewSource(seed))
		c := store.Config{Ledger: ledger.Config{Validity: 1 + r.Intn(9), Places: 1 + r.Intn(9), Day: 24}, Slot: 2 + r.Intn(200), Log: 1 + r.Intn(30)}
		if seed%2 == 0 {
			c.Slot += 200
		}
		s, d := formatted(t, c)
		p := &player{r, t, s, d, fresh(t, c, 1), seen}
		p.m.agrees("formatted", s, d)
		for i := range 200 {
			var first []byte
			if i < len(lays(t)) {
				first = lays(t)[i]
			}
			p.step(fmt.Sprintf("script %d, step %d", seed, i), first)
		}
	}
	for _, what := range []string{"Do 0", "Do 2", "Do 11", "Do 13", "Tick 0", "Tick 11", "Batch 0", "Batch 2", "Batch 11", "Batch 13", "compacted"} {
		if seen[what] < 20 {
			t.Errorf("%s: only %d times", what, seen[what])
		}
	}
}

// newRand answers numbers by chance, the same ones for the same seed.
func newRand(seed int64) *rand.Rand { return rand.New(rand.NewSource(seed)) }
