package shell

import (
	"testing"

	"purser/api"
	"purser/ledger"
	"purser/store"
	"purser/tariff"
)

// What no script shows is held to here: how the store is made, which plans it has, and that a crash is one.

func TestP31_1_HowTheStoreIsMade(t *testing.T) {
	x := begin()
	want := store.Config{Ledger: ledger.Config{Validity: 20, Places: 8, Day: 24}, Slot: 1500, Log: 400}
	if x.config != want || x.disk.Size() != 3400 || x.store.Left() != 400 || x.store.Server().Ledger().Config() != want.Ledger {
		t.Errorf("%+v, %d sectors, %d left", x.config, x.disk.Size(), x.store.Left())
	}
}

func TestP31_1_PlansOfLines(t *testing.T) {
	x := begin()
	for line, want := range map[string]api.Tariff{
		"flat 3 7 11":         {Group: 3, Mode: api.Graduated, Block: 7, Tiers: []api.Tier{{Price: 11}}},
		"volume 4 9 12 30 10": {Group: 4, Mode: api.Volume, Block: 9, Tiers: []api.Tier{{Upto: 30, Price: 12}, {Price: 10}}},
	} {
		if got := x.do(line); got != "ok\n" {
			t.Fatalf("%s: %q", line, got)
		}
		p, ok := x.store.Server().Ledger().Plan(want.Group)
		if !ok || p.Day != 0 || !tariff.Same(p.Base, want) {
			t.Errorf("%s: %+v, %v", line, p, ok)
		}
	}
}

// What changes something is refused without power, by a crash it is on again, and what wasn't answered isn't there.
func TestP31_1_ACrashIsOne(t *testing.T) {
	x := begin()
	x.do("org 1")
	x.disk.Cut(1)
	for _, line := range []string{"topup 1 5", "tick", "balance 1", "topup 1 5"} {
		if got := x.do(line); got != "error 12\n" {
			t.Errorf("%s: %q", line, got)
		}
	}
	before := x.store
	if got := x.do("crash"); got != "ok\n" || x.disk.Off() || len(x.disk.Dirty()) != 0 || x.store == before {
		t.Errorf("a crash: %q, the power is off: %v", got, x.disk.Off())
	}
	if got := x.do("balance 1") + x.do("topup 1 5") + x.do("balance 1"); got != "available 0 held 0 used 0\nok\navailable 5 held 0 used 0\n" {
		t.Errorf("%q", got)
	}
	before = x.store
	if x.do("crash"); x.store == before {
		t.Error("with the power on it is the same store")
	}
}

// If nothing can be opened behind a crash, that is told, too.
func TestP31_1_ACrashBehindWhichThereIsNoStore(t *testing.T) {
	x := begin()
	x.disk.Write(0, make([]byte, 64*3000))
	x.disk.Sync()
	if got := x.do("crash"); got != "error 7\n" {
		t.Errorf("%q", got)
	}
}
