package world

import (
	"testing"

	"purser/api"
	"purser/disk"
	"purser/frame"
	"purser/ledger"
	"purser/store"
	"purser/wire"
)

// What no script comes to is held to here: a ledger that isn't in order, and a disk that somebody else wrote on.

var config = store.Config{Ledger: ledger.Config{Validity: 5, Places: 2, Day: 24}, Slot: 30, Log: 9}

// begun answers a site of a store with an organization, that has 50.
func begun(t *testing.T) *site {
	t.Helper()
	w, err := begin(config)
	if err != api.OK {
		t.Fatalf("begin: %d", err)
	}
	for _, r := range []wire.Request{{Kind: wire.Create, Node: 1, Sort: api.Org, Limit: -1}, {Kind: wire.TopUp, Node: 1, Amount: 50}} {
		b, _ := wire.Ask(r)
		if err := w.happen(Event{Kind: Ask, Bytes: b}); err != api.OK {
			t.Fatalf("%+v: %d", r, err)
		}
	}
	return w
}

// spoil lets something be held that no session has, behind the ledger's back.
func (w *site) spoil() {
	w.store.Server().Ledger().Purse().Hold([]int{1}, []int{-1}, 5)
}

func TestP30_1_FindingsAreCounted(t *testing.T) {
	w := begun(t)
	if w.report.Findings != 0 {
		t.Fatalf("%d ahead of all", w.report.Findings)
	}
	w.spoil()
	// Behind each event, whatever its Kind is, the auditor finds one thing.
	for i, kind := range []int{Ask, Tick, Cut, 0, 7, Compact} {
		w.happen(Event{Kind: kind})
		if w.report.Findings != i+1 {
			t.Errorf("behind kind %d: %d", kind, w.report.Findings)
		}
	}
	// The image was made of what is held so: behind a crash it is there again.
	w.happen(Event{Kind: Crash})
	if w.report.Findings != 7 || w.report.Crashes != 1 {
		t.Errorf("behind a crash: %d", w.report.Findings)
	}
}

// A ledger in which two nodes aren't in order has two findings behind each event.
func TestP30_1_EachFindingIsCounted(t *testing.T) {
	w := begun(t)
	for _, r := range []wire.Request{{Kind: wire.Create, Node: 2, Sort: api.Org, Limit: -1}, {Kind: wire.TopUp, Node: 2, Amount: 50}} {
		w.store.Server().Ledger().Do(r)
	}
	w.store.Server().Ledger().Purse().Hold([]int{1, 2}, []int{-1, -1}, 5)
	w.happen(Event{Kind: Tick})
	w.happen(Event{Kind: Tick})
	if w.report.Findings != 4 {
		t.Errorf("%d", w.report.Findings)
	}
}

func TestP30_1_NoFindingsWithoutPower(t *testing.T) {
	w := begun(t)
	w.happen(Event{Kind: Cut, N: 1})
	w.happen(Event{Kind: Tick})
	w.spoil()
	for _, kind := range []int{Ask, Tick, Cut, 0, Compact} {
		w.happen(Event{Kind: kind})
	}
	if w.report.Findings != 0 {
		t.Errorf("%d", w.report.Findings)
	}
	w.happen(Event{Kind: Crash})
	if w.report.Findings != 0 || w.disk.Off() {
		t.Errorf("behind a crash: %d", w.report.Findings)
	}
}

func TestP30_1_AnOpenThatFails(t *testing.T) {
	// Without an image there is no store; nor is there one of a record that is none.
	for what, spoil := range map[string]func(w *site){
		"no image": func(w *site) { w.disk.Write(0, make([]byte, 64*2*config.Slot)) },
		"a record": func(w *site) { w.disk.Write(2*config.Slot+2, lone(w.store.Gen())) },
	} {
		w := begun(t)
		spoil(w)
		w.disk.Sync()
		if err := w.happen(Event{Kind: Crash}); err != api.ErrFalse {
			t.Errorf("%s: %d", what, err)
		}
		w = begun(t)
		spoil(w)
		w.disk.Sync()
		w.disk.Cut(1)
		w.happen(Event{Kind: Tick})
		// The tick's sector was cut off, and didn't last: what was written there stands still.
		if got, err := w.end(); err != api.ErrFalse || got.Answers != nil || got.Image != nil || got.Crashes != 0 || got.Findings != 0 {
			t.Errorf("%s, at the end: %+v, %d", what, got, err)
		}
	}
}

// lone answers the sector of a log's third group, whose record is none.
func lone(gen int) []byte {
	d, _ := disk.New(3)
	log, _, _ := frame.Open(d, 0, 3, gen)
	for range 3 {
		log.Append([][]byte{{9}})
	}
	b, _ := d.Read(2, 1)
	return b
}
