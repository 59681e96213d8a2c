package store_test

import (
	"bytes"
	"fmt"
	"math/rand"
	"slices"
	"testing"

	"purser/api"
	"purser/disk"
	"purser/frame"
	"purser/ledger"
	"purser/snap"
	"purser/store"
	"purser/wire"
)

// act is what a script does: a Batch, or, if it is of one request or tick, the call for that; without a list a Compact.
type act [][]byte

// run does an act, and says whether the power stayed on.
func (a act) run(s *store.Store) bool {
	switch {
	case len(a) == 0:
		return s.Compact() != api.ErrDown
	case len(a) > 1:
		l := s.Batch(a)
		return l[0][len(l[0])-1] != byte(api.ErrDown)
	case len(a[0]) == 0:
		_, err := s.Tick()
		return err != api.ErrDown
	}
	return s.Do(a[0])[1] != byte(api.ErrDown)
}

// acts answers a script that does some of all.
func acts(t *testing.T) []act {
	t.Helper()
	b := func(r request) []byte { return bytesOf(t, r) }
	l := []act{lays(t)[:6], lays(t)[6:]}
	first := b(request{Kind: wire.Initial, Session: 1, Node: 3, Items: []item{{Group: 1, Want: 10}, {Group: 2, Want: 3}}})
	return append(l,
		act{first}, act{first}, act{nil},
		act{b(request{Kind: wire.Event, Number: 4, Node: 4, Group: 2, Units: 9})},
		nil,
		act{b(request{Kind: wire.Update, Session: 1, Number: 1, Items: []item{{Group: 1, Used: 4, Want: 5}}})},
		act{nil, b(request{Kind: wire.Balance, Node: 1}), b(request{Kind: wire.Refund, Number: 6, Of: 4}), {7}, b(request{Kind: wire.Shut, Node: 99}), nil, nil},
		act{b(request{Kind: wire.Shut, Node: 4})},
		act{b(request{Kind: wire.Initial, Session: 2, Node: 3, Items: []item{{Group: 2, Want: 10}}}), nil, nil, nil, nil, nil},
		nil, nil,
		act{b(request{Kind: wire.Roll, Carry: []int{1, 3}})}, act{b(request{Kind: wire.Create, Node: 9, Sort: 1, Limit: 5})}, act{nil},
	)
}

// crashing is a config whose log is full now and then in the script.
var crashing = store.Config{Ledger: ledger.Config{Validity: 5, Places: 3, Day: 24}, Slot: 40, Log: 5}

// states answers the images behind each act of a script that no crash comes to, the first one ahead of all.
func states(t *testing.T) [][]byte {
	t.Helper()
	s, _ := formatted(t, crashing)
	l := [][]byte{pack(t, s.Server())}
	for _, a := range acts(t) {
		if !a.run(s) {
			t.Fatal("the power went off")
		}
		l = append(l, pack(t, s.Server()))
	}
	if s.Gen() < 5 {
		t.Fatalf("generation %d: it was never full", s.Gen())
	}
	return l
}

// torn answers a disk on which the script was cut off at a sector, and how many of its acts were answered.
func torn(t *testing.T, cut int) (*disk.Disk, int) {
	t.Helper()
	s, d := formatted(t, crashing)
	d.Cut(cut)
	for i, a := range acts(t) {
		if !a.run(s) {
			return d, i
		}
	}
	return d, len(acts(t))
}

// masks answers what a crash may keep of so many sectors: nothing, all, and some; of few sectors each choice of them.
func masks(r *rand.Rand, n int) [][]bool {
	l := [][]bool{nil, slices.Repeat([]bool{true}, n)}
	for mask := 1; n < 4 && mask < 1<<n-1; mask++ {
		kept := make([]bool, n)
		for k := range kept {
			kept[k] = mask>>k&1 == 1
		}
		l = append(l, kept)
	}
	for range min(n, 4) {
		kept := make([]bool, n)
		for k := range kept {
			kept[k] = r.Intn(2) == 0
		}
		l = append(l, kept)
	}
	return l
}

// goesOn holds that a store is there behind a crash, as it was answered or as it was under way to, and that the script goes on.
func goesOn(t *testing.T, what string, d *disk.Disk, answered int, want [][]byte) {
	t.Helper()
	s := opened(t, what, d, crashing)
	got := pack(t, s.Server())
	next := answered
	if next < len(acts(t)) && bytes.Equal(got, want[next+1]) {
		next++
	}
	if !bytes.Equal(got, want[next]) {
		t.Fatalf("%s: %d were answered, and it is another one", what, answered)
	}
	for i, a := range acts(t)[next:] {
		if !a.run(s) {
			t.Fatalf("%s: the power went off", what)
		}
		if i%3 == 0 {
			d.Crash(nil)
			s = opened(t, what, d, crashing)
		}
	}
	if !bytes.Equal(pack(t, s.Server()), want[len(want)-1]) {
		t.Fatalf("%s: it went on as another one", what)
	}
}

func TestP26_2_CrashAtEachSector(t *testing.T) {
	r, want := newRand(1), states(t)
	for cut := 1; ; cut++ {
		d, answered := torn(t, cut)
		if !d.Off() {
			if cut < 45 {
				t.Errorf("only %d sectors were written", cut)
			}
			return
		}
		for _, kept := range masks(r, len(d.Dirty())) {
			d, _ := torn(t, cut)
			d.Crash(kept)
			goesOn(t, fmt.Sprintf("cut off at %d, kept %v", cut, kept), d, answered, want)
		}
	}
}

// An Open writes nothing: a crash in it changes nothing, but what lay in the cache.
func TestP26_2_CrashInOpen(t *testing.T) {
	want := states(t)
	for cut := 1; cut < 60; cut += 3 {
		d, answered := torn(t, cut)
		d.Crash(nil)
		before := lasting(t, d)
		d.Cut(1)
		opened(t, "Open", d, crashing)
		if d.Off() || len(d.Dirty()) > 0 || !bytes.Equal(lasting(t, d), before) {
			t.Fatalf("cut off at %d: something was written", cut)
		}
		d.Crash([]bool{true})
		goesOn(t, fmt.Sprintf("cut off at %d, and in Open", cut), d, answered, want)
	}
}

// A Format that is cut off leaves what was there ahead, or its last image, or a new server; and what comes of that goes on.
func TestP26_2_CrashInFormat(t *testing.T) {
	r := newRand(2)
	begun := func(acts []act) *disk.Disk {
		s, d := formatted(t, crashing)
		for _, a := range acts {
			a.run(s)
		}
		return d
	}
	for _, script := range [][]act{nil, acts(t)[:4], {{nil}, {nil}, {nil}, {nil}}, acts(t)} {
		for cut := 1; ; cut++ {
			d := begun(script)
			gen, last, err := snap.Load(d, 0, crashing.Slot)
			if err != api.OK {
				t.Fatal(err)
			}
			old := pack(t, opened(t, "ahead", d, crashing).Server())
			_, news := fresh(t, crashing, gen+1), pack(t, fresh(t, crashing, 1).s)
			d.Cut(cut)
			if _, err := store.Format(d, crashing); err == api.OK {
				if cut < 4 {
					t.Errorf("only %d sectors were written", cut)
				}
				break
			} else if err != api.ErrDown {
				t.Fatalf("Format: %d", err)
			}
			for _, kept := range masks(r, len(d.Dirty())) {
				d := begun(script)
				d.Cut(cut)
				store.Format(d, crashing)
				d.Crash(kept)
				what := fmt.Sprintf("cut off at %d, kept %v", cut, kept)
				s := opened(t, what, d, crashing)
				got := pack(t, s.Server())
				if !bytes.Equal(got, old) && !bytes.Equal(got, last) && !bytes.Equal(got, news) {
					t.Fatalf("%s: it is another one", what)
				}
				if cut > 1 && len(script) > 0 && bytes.Equal(got, old) && !bytes.Equal(old, last) && !bytes.Equal(old, news) {
					t.Fatalf("%s: the log is there still", what)
				}
				staysSo(t, what, s, d)
			}
		}
	}
}

// staysSo lets a store go on, and holds that it is opened again as it was answered each time.
func staysSo(t *testing.T, what string, s *store.Store, d *disk.Disk) {
	t.Helper()
	for i, a := range append([]act{{nil}, {nil, nil}, {nil}}, acts(t)...) {
		a.run(s)
		want := pack(t, s.Server())
		d.Crash(nil)
		o := opened(t, what, d, crashing)
		if !bytes.Equal(pack(t, o.Server()), want) {
			t.Fatalf("%s: behind act %d it is another one", what, i)
		}
		if i%2 == 0 {
			s = o
		}
	}
}

// Crash behind crash, with all that a model can tell.
func TestP26_2_ManyCrashes(t *testing.T) {
	seen := map[string]int{}
	for seed := range int64(60) {
		r := newRand(seed)
		c := store.Config{Ledger: ledger.Config{Validity: 1 + r.Intn(6), Places: 1 + r.Intn(5), Day: 24}, Slot: 150, Log: 3 + r.Intn(12)}
		s, d := formatted(t, c)
		before := pack(t, s.Server())
		for i := range 120 {
			what := fmt.Sprintf("script %d, step %d", seed, i)
			if r.Intn(2) == 0 {
				d.Cut(1 + r.Intn(12))
			}
			var l act
			for range r.Intn(5) {
				l = append(l, draw(t, r, s.Server()))
			}
			if i < len(lays(t)) {
				l = lays(t)[i : i+1]
			}
			on := l.run(s)
			after := pack(t, s.Server())
			if on && !d.Off() && r.Intn(4) > 0 {
				before = after
				continue
			}
			kept := make([]bool, len(d.Dirty()))
			for k := range kept {
				kept[k] = r.Intn(2) == 0
			}
			d.Crash(kept)
			s = opened(t, what, d, c)
			got := pack(t, s.Server())
			switch {
			case bytes.Equal(got, before) && (!on || bytes.Equal(before, after)):
				seen["as it was"]++
			case bytes.Equal(got, after):
				seen["as it was to be"]++
			default:
				t.Fatalf("%s: %v, kept %v: it is another one", what, on, kept)
			}
			before = got
		}
	}
	if seen["as it was"] < 200 || seen["as it was to be"] < 200 {
		t.Errorf("%v", seen)
	}
}

// A Batch is there wholly, or not at all.
func TestP26_2_ABatchAsAWhole(t *testing.T) {
	r := newRand(3)
	l := act(slices.Repeat([][]byte{nil, bytesOf(t, request{Kind: wire.TopUp, Node: 1, Amount: 1})}, 15))
	whole := 0
	for cut := 1; cut <= 3; cut++ {
		for range 30 {
			s, d := laidOut(t, crashing)
			s.Compact()
			want := s.Server().Ledger().Now()
			d.Cut(cut)
			if on := l.run(s); on || !d.Off() {
				t.Fatalf("cut off at %d: it was answered", cut)
			}
			kept := make([]bool, len(d.Dirty()))
			for k := range kept {
				kept[k] = r.Intn(2) == 0
			}
			d.Crash(kept)
			x := opened(t, "a Batch", d, crashing).Server().Ledger()
			now, topped := x.Now()-want, x.Purse().Get(1).Topped-5000
			if now != topped || now != 0 && now != 15 || now == 15 && cut < 3 {
				t.Fatalf("cut off at %d, kept %v: %d ticks, %d topped up", cut, kept, now, topped)
			}
			whole += now / 15
		}
	}
	if whole == 0 || whole == 30 {
		t.Errorf("it was there %d times", whole)
	}
}

// What of a log of the same generation stands on the disk from long ago is never told again.
func TestP26_2_WhatWasToldLongAgo(t *testing.T) {
	ticked := func(n int) *disk.Disk {
		s, d := formatted(t, crashing)
		for range n {
			s.Tick()
		}
		return d
	}
	held := func(what string, d *disk.Disk, s *store.Store) {
		t.Helper()
		for i := range 5 {
			s.Batch([][]byte{nil, lays(t)[i]})
			want := pack(t, s.Server())
			d.Crash(nil)
			if o := opened(t, what, d, crashing); !bytes.Equal(pack(t, o.Server()), want) {
				t.Fatalf("%s: behind %d it is another one", what, i)
			}
		}
	}
	// A Format is cut off behind its first sector: the log that stood there has lost its first group alone.
	d := ticked(4)
	d.Cut(2)
	if _, err := store.Format(d, crashing); err != api.ErrDown {
		t.Fatalf("Format: %d", err)
	}
	d.Crash(nil)
	s := opened(t, "cut off", d, crashing)
	if s.Gen() != 1 || s.Left() != 5 || s.Server().Ledger().Now() != 0 {
		t.Fatalf("generation %d, %d left, at %d", s.Gen(), s.Left(), s.Server().Ledger().Now())
	}
	held("cut off", d, s)
	// Both images are lost, and the log isn't; then the last one alone is.
	for _, images := range []int{1, 2} {
		d = ticked(5)
		s = opened(t, "lost", d, crashing)
		for range images - 1 {
			s.Compact()
			for range 4 {
				s.Tick()
			}
		}
		d.Write(0, make([]byte, 64*crashing.Slot))
		if images == 1 {
			d.Write(crashing.Slot, make([]byte, 64*crashing.Slot))
		}
		d.Sync()
		if images == 1 {
			s, _ = store.Format(d, crashing)
		} else {
			s = opened(t, "lost", d, crashing)
			if s.Compact() != api.OK || s.Gen() != 2 || s.Left() != 5 {
				t.Fatalf("generation %d, %d left", s.Gen(), s.Left())
			}
		}
		held(fmt.Sprint("lost ", images), d, s)
	}
}

// The heads of other generations, of which the log is full behind a Compact, are left as they are.
func TestP26_2_NoMoreIsWrittenThanTheRecords(t *testing.T) {
	s, d := formatted(t, small)
	for range 30 {
		s.Tick()
		if s.Left() == 0 {
			s.Compact()
		}
		// A tick needs a sector, and nothing else is written.
		before := lasting(t, d)
		gen, group := s.Gen(), small.Log-s.Left()
		s.Tick()
		after := lasting(t, d)
		want := slices.Clone(before)
		copy(want[64*(2*small.Slot+group):], laid(gen, group, [][]byte{{2}}))
		if !bytes.Equal(after, want) {
			t.Fatalf("generation %d, group %d: something else was written", gen, group)
		}
	}
	if _, records, _ := frame.Open(d, 2*small.Slot, small.Log, s.Gen()); len(records) != small.Log-s.Left() {
		t.Errorf("%d records", len(records))
	}
}
