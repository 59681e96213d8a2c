package image_test

import (
	"bytes"
	"encoding/hex"
	"fmt"
	"slices"
	"strings"
	"testing"

	"purser/api"
	"purser/codec"
	"purser/entry"
	"purser/image"
	"purser/ledger"
	"purser/server"
	"purser/tariff"
	"purser/tree"
	"purser/window"
	"purser/wire"
)

type (
	request = wire.Request
	answer  = wire.Answer
	item    = wire.Item
)

// unhex answers the bytes that words of digits tell.
func unhex(t *testing.T, words string) []byte {
	t.Helper()
	b, err := hex.DecodeString(strings.ReplaceAll(words, " ", ""))
	if err != nil {
		t.Fatal(err)
	}
	return b
}

// made answers a new server.
func made(t *testing.T, c ledger.Config) *server.Server {
	t.Helper()
	s, err := server.New(c)
	if err != api.OK {
		t.Fatalf("New(%+v): %d", c, err)
	}
	return s
}

// does holds that a request is answered without an error.
func does(t *testing.T, s *server.Server, r request) answer {
	t.Helper()
	b, err := wire.Ask(r)
	if err != api.OK {
		t.Fatalf("Ask(%+v): %d", r, err)
	}
	a, err := wire.Told(s.Do(b))
	if a.Kind != r.Kind || a.Err != api.OK || err != api.OK {
		t.Fatalf("%+v: %+v, %d", r, a, err)
	}
	return a
}

// ticks lets so many steps of time go by.
func ticks(t *testing.T, s *server.Server, n int) {
	t.Helper()
	for range n {
		if _, err := s.Tick(); err != api.OK {
			t.Fatalf("Tick: %d", err)
		}
	}
}

// pack answers a server's bytes.
func pack(t *testing.T, s *server.Server) []byte {
	t.Helper()
	b, err := image.Pack(s)
	if err != api.OK {
		t.Fatalf("Pack: %d", err)
	}
	return b
}

// unpack answers the server of these bytes, and holds that they are its bytes.
func unpack(t *testing.T, what string, b []byte) *server.Server {
	t.Helper()
	s, err := image.Unpack(b)
	if err != api.OK || s == nil {
		t.Fatalf("%s: Unpack: %d", what, err)
	}
	if own := pack(t, s); !bytes.Equal(own, b) {
		t.Fatalf("%s: %x came back as %x", what, b, own)
	}
	return s
}

// refuses holds that there is no server of these bytes.
func refuses(t *testing.T, what string, b []byte) {
	t.Helper()
	if s, err := image.Unpack(b); s != nil || err != api.ErrForm {
		t.Errorf("%s: Unpack: %v, %d", what, s, err)
	}
}

// steps answers a plan of so many tiers, each but the last one a block wide; with a Day it has two tariffs.
func steps(group, tiers, day int) tariff.Plan {
	x := api.Tariff{Group: group, Mode: api.Graduated, Block: 1}
	for i := range tiers - 1 {
		x.Tiers = append(x.Tiers, api.Tier{Upto: i + 1, Price: tiers - i})
	}
	x.Tiers = append(x.Tiers, api.Tier{Price: 1})
	p := tariff.Plan{Base: x}
	if day > 0 {
		p.Day, p.To, p.Other = day, day/2, tariff.Copy(x)
		p.Other.Mode = api.Volume
	}
	return p
}

// some is a server that has some of each part: nodes that are closed, or moved, or have limits; two periods; sessions that
// are open and that are over by both ways; events, one of which was refunded.
func some(t *testing.T) *server.Server {
	t.Helper()
	s := made(t, ledger.Config{Validity: 5, Places: 4, Day: 24})
	parents, sorts := []int{0, 5, 5, 9, 0, 2, 7, 0, 2, 4}, []int{0, 2, 2, 3, 0, 3, 3, 0, 3, 3}
	does(t, s, request{Kind: wire.Create, Node: 5, Sort: api.Org, Limit: 500})
	does(t, s, request{Kind: wire.Create, Node: 8, Sort: api.Org, Limit: -1})
	for _, node := range []int{1, 2} {
		does(t, s, request{Kind: wire.Create, Node: node, Parent: parents[node], Sort: sorts[node], Limit: -1})
	}
	for _, node := range []int{9, 6, 31} {
		does(t, s, request{Kind: wire.Create, Node: node, Parent: 2, Sort: api.Project, Limit: 300 + node})
	}
	does(t, s, request{Kind: wire.Move, Node: 31, Parent: 1})
	does(t, s, request{Kind: wire.Shut, Node: 8})
	for _, node := range []int{5, 2, 9, 6} {
		does(t, s, request{Kind: wire.TopUp, Node: node, Amount: 100 * node})
	}
	does(t, s, request{Kind: wire.Price, Plan: steps(3, 2, 0)})
	does(t, s, request{Kind: wire.Price, Plan: steps(1, 3, 10)})
	does(t, s, request{Kind: wire.Event, Number: 2, Node: 9, Group: 3, Units: 3})
	does(t, s, request{Kind: wire.Roll, Carry: []int{5, 2, 9}})
	does(t, s, request{Kind: wire.TopUp, Node: 6, Amount: 50})
	for id := 2; id <= 5; id++ {
		does(t, s, request{Kind: wire.Initial, Session: id, Node: 9 - id%2*3, Items: []item{{Group: 1 + id/2%2*2, Want: 3}}})
		if id == 2 {
			ticks(t, s, 3)
		}
	}
	does(t, s, request{Kind: wire.Terminate, Session: 4, Number: 1, Items: []item{{Group: 1, Used: 2}}})
	ticks(t, s, 3)
	does(t, s, request{Kind: wire.Update, Session: 5, Number: 1, Items: []item{{Group: 1, Used: 3, Want: 9}, {Group: 3, Want: 1}}})
	does(t, s, request{Kind: wire.Event, Number: 5, Node: 9, Group: 1, Units: 7})
	does(t, s, request{Kind: wire.Event, Number: 6, Node: 9, Group: 3, Units: 1})
	does(t, s, request{Kind: wire.Refund, Number: 9, Of: 5})
	does(t, s, request{Kind: wire.Initial, Session: 9, Node: 6, Items: []item{{Group: 3, Want: 1000}}})
	return s
}

// full is a server every part of which has as much as requests bring there.
func full(t *testing.T) *server.Server {
	t.Helper()
	s := made(t, ledger.Config{Validity: 40, Places: 16, Day: 4})
	for node := 1; node <= 32; node++ {
		does(t, s, request{Kind: wire.Create, Node: node, Parent: min(node-1, 2), Sort: min(node, 3), Limit: -1})
		does(t, s, request{Kind: wire.TopUp, Node: node, Amount: 1 << 40})
	}
	for group := 1; group <= 8; group++ {
		does(t, s, request{Kind: wire.Price, Plan: steps(group, 6, 100)})
	}
	ticks(t, s, 50) // the night, when all is graduated
	for id := 1; id <= 24; id++ {
		want := []item{{Group: 1, Want: 30}, {Group: 2, Want: 30}, {Group: 3, Want: 30}, {Group: 4, Want: 30}}
		does(t, s, request{Kind: wire.Initial, Session: id, Node: 2 + id, Items: want})
		for number := 1; number <= 3; number++ {
			for i := range want {
				want[i].Used = 30 - number
			}
			does(t, s, request{Kind: wire.Update, Session: id, Number: number, Items: want})
		}
		if id%3 == 1 {
			does(t, s, request{Kind: wire.Terminate, Session: id, Number: 4})
		}
		if id%6 == 0 {
			ticks(t, s, 1)
		}
	}
	for i := range 16 {
		does(t, s, request{Kind: wire.Event, Number: i, Node: 32 - i, Group: 8, Units: 9})
	}
	return s
}

// tables answers what a server has: the counts of its parts.
func tables(s *server.Server) string {
	l := s.Ledger().Parts()
	lines, windows := 0, 0
	for _, e := range l.Past {
		lines = max(lines, len(e.Lines))
	}
	for _, k := range s.Parts().Sessions {
		windows = max(windows, k.Window.Len())
	}
	return fmt.Sprint(len(l.Tree.Ids()), len(l.Purse.Nodes()), len(l.Plans), len(l.Table.Ids()), len(l.Rhythms), len(l.Past), lines,
		len(s.Parts().Sessions), windows, len(s.Ended()), s.Parts().Events.Len())
}

func TestP25_1_BytesOfANewServer(t *testing.T) {
	s := made(t, ledger.Config{Validity: 5, Places: 2, Day: 24})
	want := unhex(t, "05 02 18 00"+"00"+"00"+"00 00"+"00"+"01 00"+"03 02 00 00"+"00"+"00"+"00 00"+"04 10 00 01 00")
	if b := pack(t, s); !bytes.Equal(b, want) {
		t.Errorf("%x, not %x", b, want)
	}
	unpack(t, "a new one", want)
	s = made(t, ledger.Config{Validity: 1 << 30, Places: 16, Day: 1 << 30})
	want = unhex(t, "8080808004 10 8080808004 00"+"00 00 00 00 00 0100 03100000 00 00 00 00 0410000100")
	if b := pack(t, s); !bytes.Equal(b, want) {
		t.Errorf("%x, not %x", b, want)
	}
	unpack(t, "a great config", want)
}

func TestP25_1_BytesOfALittle(t *testing.T) {
	s := made(t, ledger.Config{Validity: 5, Places: 2, Day: 24})
	does(t, s, request{Kind: wire.Create, Node: 3, Sort: api.Org, Limit: 9})
	does(t, s, request{Kind: wire.Create, Node: 4, Parent: 3, Sort: api.Team, Limit: -1})
	does(t, s, request{Kind: wire.Create, Node: 2, Parent: 4, Sort: api.Project, Limit: -1})
	for node := 2; node <= 4; node++ {
		does(t, s, request{Kind: wire.TopUp, Node: node, Amount: 5})
	}
	does(t, s, request{Kind: wire.Price, Plan: steps(7, 1, 0)})
	ticks(t, s, 13)
	does(t, s, request{Kind: wire.Event, Number: 6, Node: 2, Group: 7, Units: 1})
	does(t, s, request{Kind: wire.Initial, Session: 1, Node: 2, Items: []item{{Group: 7, Want: 1}}})
	does(t, s, request{Kind: wire.Terminate, Session: 1, Number: 1})
	does(t, s, request{Kind: wire.Initial, Session: 200, Node: 2, Items: []item{{Group: 7, Want: 2}}})
	does(t, s, request{Kind: wire.Roll, Carry: []int{2, 3, 4}})
	does(t, s, request{Kind: wire.Event, Number: 9, Node: 2, Group: 7, Units: 1})
	hold := "1a 02 06 020200 02 020300 02 020400 02 030200 01 030300 01 030400 01"
	commit := "1a 04 06 030200 02 030300 02 030400 02 040207 01 040307 01 040407 01"
	want := unhex(t, strings.Join([]string{
		"05 02 18 0d",                                              // the config, the time
		"03", "03 00 01 12 00", "04 03 02 01 00", "02 04 03 01 00", // nodes
		"03", "02 00 04 00 01 02", "03 00 04 00 01 02", "04 00 04 00 01 02", // accounts
		"01 0a", // the open period, ten entries
		"00 0a 01 02 010000 0a 020200 09", "00 0a 01 02 010000 0a 020300 09", "00 0a 01 02 010000 0a 020400 09",
		"00" + hold, "00" + commit, "00" + hold,
		"00 1a 03 06 020200 01 020300 01 020400 01 030200 02 030300 02 030400 02",
		"00 1a 02 06 020200 04 020300 04 020400 04 030200 03 030300 03 030400 03",
		"01" + hold, "01" + commit,
		"01", "09 00 00 00 07 01 01 01 00 01", // plans
		"0d 02 00 02 07 00 01 01 01 02 07 00 01 01",  // the sheet
		"0e 02 c801 01 c801 02 00 12 01 07 02 02 00", // the table
		"01", "02 00 00 01 00", // rhythms
		"02", "06 02 07 00 01 01 00 01 01 00", "09 02 07 01 01 01 00 01 01 00", // the past
		"02", // known sessions
		"01 20 04 01 02 02" + "00 06 010102010701 09 010001070101001200" + "01 04 03010100 03 030000",
		"c801 17 04 01 00 01" + "00 07 01c80102010702 09 010001070202001200",
		"01 01", // those that are over
		"1a 10 00 12 02" + "06 05 0406020701 03 040001" + "09 05 0409020701 03 040001", // events
	}, ""))
	if b := pack(t, s); !bytes.Equal(b, want) {
		t.Errorf("%x, not\n%x", b, want)
	}
	unpack(t, "a little", want)
}

func TestP25_1_AsItsPartsAre(t *testing.T) {
	for what, s := range map[string]*server.Server{"a new one": made(t, ledger.Config{Validity: 1, Places: 1, Day: 4}), "some": some(t), "a full one": full(t)} {
		p := plainOf(t, s)
		b := pack(t, s)
		if !bytes.Equal(b, p.bytes()) {
			t.Errorf("%s: %x, not %x", what, b, p.bytes())
		}
		u := unpack(t, what, b)
		if !bytes.Equal(plainOf(t, u).bytes(), b) || tables(u) != tables(s) {
			t.Errorf("%s: it came back as another one", what)
		}
	}
	if got := tables(some(t)); got != "7 4 2 3 2 3 2 5 2 2 4" {
		t.Errorf("some: %s", got)
	}
	if got := tables(full(t)); got != "32 32 8 16 30 16 6 24 4 8 16" {
		t.Errorf("a full one: %s", got)
	}
}

func TestP25_1_NoServer(t *testing.T) {
	events, _ := window.New(1, false)
	bare, err := server.Make(server.Parts{Ledger: &ledger.Ledger{}, Events: events})
	if err != api.OK {
		t.Fatal(err)
	}
	for _, s := range []*server.Server{nil, {}, bare} {
		if b, err := image.Pack(s); b != nil || err != api.ErrArg {
			t.Errorf("%v: %x, %d", s, b, err)
		}
	}
	for _, b := range [][]byte{nil, {}, {0}, {5}, make([]byte, 30), bytes.Repeat([]byte{255}, 1000), bytes.Repeat([]byte{1}, 1000)} {
		refuses(t, fmt.Sprintf("%x", b), b)
	}
}

// remade answers a server of a server's parts, but for some.
func remade(t *testing.T, s *server.Server, bend func(p *ledger.Parts, q *server.Parts)) *server.Server {
	t.Helper()
	q := s.Parts()
	p := q.Ledger.Parts()
	bend(&p, &q)
	l, err := ledger.Make(p)
	if err != api.OK {
		t.Fatalf("ledger.Make: %d", err)
	}
	q.Ledger = l
	made, err := server.Make(q)
	if err != api.OK {
		t.Fatalf("server.Make: %d", err)
	}
	return made
}

// What no call of a ledger comes to, but can be handed in, may have no bytes; nothing panics.
func TestP25_1_PartsWithoutBytes(t *testing.T) {
	for what, bend := range map[string]func(p *ledger.Parts, q *server.Parts){
		"a cost":       func(p *ledger.Parts, _ *server.Parts) { p.Past[0].Cost = -1 },
		"a tier":       func(p *ledger.Parts, _ *server.Parts) { p.Past[0].Lines[0].Tier = -1 },
		"a quarter":    func(p *ledger.Parts, _ *server.Parts) { p.Rhythms[9] = rhythmOf(0, -1, 0, 0) },
		"a node":       func(p *ledger.Parts, _ *server.Parts) { p.Rhythms[-1] = rhythmOf(0, 1, 0, 0) },
		"empty window": func(_ *ledger.Parts, q *server.Parts) { q.Events = &window.Window{} },
	} {
		s := remade(t, some(t), bend)
		b, err := image.Pack(s)
		if err == api.OK && what != "empty window" || err != api.OK && (b != nil || err != api.ErrArg) {
			t.Errorf("%s: %x, %d", what, b, err)
		}
		if err == api.OK {
			refuses(t, what, b)
		}
	}
}

// swap puts the last two of a list in the other order.
func swap[T any](l []T) { l[len(l)-1], l[len(l)-2] = l[len(l)-2], l[len(l)-1] }

// twice puts the last of a list behind it once more.
func twice[T any](l *[]T) { *l = append(*l, (*l)[len(*l)-1]) }

// bend changes a plain image.
type bend = func(p *plain)

// refused are changes of the image of some, each of which leaves no server's bytes.
func refused(t *testing.T) map[string]bend {
	entries := func(change func(e *entry.Entry)) bend {
		return func(p *plain) {
			e, _ := entry.Read(p.entries[0].entry)
			change(&e)
			p.entries[0].entry = written(t)(entry.Write(e))
		}
	}
	fresh, _ := window.New(4, true)
	none := written(t)(fresh.Write())
	return map[string]bend{
		"no Validity": func(p *plain) { p.config[0] = 0 }, "a Validity too great": func(p *plain) { p.config[0] = 1<<30 + 1 },
		"no Places": func(p *plain) { p.config[1] = 0 }, "17 Places": func(p *plain) { p.config[1] = 17 },
		"a Day of 3": func(p *plain) { p.config[2] = 3 }, "a Day too great": func(p *plain) { p.config[2] = 1<<30 + 1 },
		"a time too great": func(p *plain) { p.config[3] = 1<<61 + 1 }, "a time above 2^62": func(p *plain) { p.config[3] = 1<<62 + 1 },

		"nodes swapped": func(p *plain) { swap(p.nodes) }, "orgs swapped": func(p *plain) { swap(p.nodes[:2]) },
		"a team ahead of an org": func(p *plain) { swap(p.nodes[:3]) }, "a project ahead of a team": func(p *plain) { swap(p.nodes[:5]) },
		"a node twice": func(p *plain) { twice(&p.nodes) }, "a node of Id 0": func(p *plain) { p.nodes[0].Id = 0 },
		"a node of Id 33":  func(p *plain) { p.nodes = append(p.nodes, tree.Node{Id: 33, Parent: 1, Kind: 3}) },
		"a node of Kind 0": func(p *plain) { p.nodes[0].Kind = 0 },
		"a node of Kind 4": func(p *plain) { p.nodes = append(p.nodes, tree.Node{Id: 32, Parent: 6, Kind: 4}) },
		"a Limit of -2":    func(p *plain) { p.nodes[0].Limit = -2 }, "a Limit too great": func(p *plain) { p.nodes[0].Limit = 1<<53 + 1 },
		"the least Limit":                 func(p *plain) { p.nodes[0].Limit = -1 << 63 },
		"a parent that isn't there":       func(p *plain) { p.nodes[3].Parent = 4 },
		"a parent of a wrong kind":        func(p *plain) { p.nodes[3].Parent = 1 },
		"an org with a parent":            func(p *plain) { p.nodes[1].Parent = 5 },
		"an open node under a closed one": func(p *plain) { p.nodes[3].Closed = true },
		"the parents gone":                func(p *plain) { p.nodes = p.nodes[1:] },

		"accounts swapped": func(p *plain) { swap(p.accounts) }, "an account twice": func(p *plain) { twice(&p.accounts) },
		"an account of noughts":     func(p *plain) { p.accounts = append(p.accounts, [6]int{32}) },
		"an account of node 0":      func(p *plain) { p.accounts = slices.Insert(p.accounts, 0, [6]int{}) },
		"an account of node 33":     func(p *plain) { p.accounts = append(p.accounts, [6]int{33}) },
		"an account that isn't one": func(p *plain) { p.accounts[0][3] = 1 << 53 },
		"too much in an account":    func(p *plain) { p.accounts[0][1] = 1<<53 + 1 },
		"an account gone":           func(p *plain) { p.accounts = p.accounts[1:] },
		"more in an account":        func(p *plain) { p.accounts[0][1]++ },
		"more used in an account":   func(p *plain) { p.accounts[0][4]++; p.accounts[0][1]++ },
		"more held in an account":   func(p *plain) { p.accounts[0][5]++; p.accounts[0][1]++ },
		"an account more":           func(p *plain) { p.accounts = append(p.accounts, [6]int{32, 1}) },

		"the open period 32": func(p *plain) { p.open = 32 }, "the open period 2": func(p *plain) { p.open = 2 },
		"the open period 0": func(p *plain) { p.open = 0 }, "a great open period": func(p *plain) { p.open = 1 << 62 },
		"periods that fall":    func(p *plain) { p.entries[0].period = 1 },
		"entries swapped":      func(p *plain) { swap(p.entries); p.entries[0].period = 1 },
		"an entry gone":        func(p *plain) { p.entries = p.entries[1:] },
		"no entries":           func(p *plain) { p.entries = nil },
		"an entry twice":       func(p *plain) { twice(&p.entries) },
		"an entry of no bytes": func(p *plain) { p.entries[0].entry = nil },
		"an entry with a tail": func(p *plain) { p.entries[0].entry = append(p.entries[0].entry, 0) },
		"an entry cut short":   func(p *plain) { p.entries[0].entry = p.entries[0].entry[:9] },
		"an entry of Kind 7":   func(p *plain) { p.entries[0].entry[0] = 7 },
		"another amount":       entries(func(e *entry.Entry) { e.Legs[0].Amount++; e.Legs[1].Amount-- }),
		"another account":      entries(func(e *entry.Entry) { e.Legs[1].Account.Node = 32 }),

		"plans swapped": func(p *plain) { swap(p.plans) }, "a plan twice": func(p *plain) { twice(&p.plans) },
		"a plan of no bytes":   func(p *plain) { p.plans[0] = nil },
		"a plan with a tail":   func(p *plain) { p.plans[0] = append(p.plans[0], 0) },
		"a plan of Group 9":    func(p *plain) { p.plans[1] = append([]byte{0, 0, 0, 9}, p.plans[1][4:]...) },
		"no sheet":             func(p *plain) { p.sheet = nil },
		"a sheet with a tail":  func(p *plain) { p.sheet = append(p.sheet, 0) },
		"a sheet cut short":    func(p *plain) { p.sheet = p.sheet[:len(p.sheet)-1] },
		"no table":             func(p *plain) { p.table = nil },
		"a table with a tail":  func(p *plain) { p.table = append(p.table, 0) },
		"a table of no places": func(p *plain) { p.table[0] = 0 },

		"rhythms swapped": func(p *plain) { swap(p.rhythms) }, "a rhythm twice": func(p *plain) { twice(&p.rhythms) },
		"a rhythm of noughts":       func(p *plain) { p.rhythms = append(p.rhythms, [5]int{32}) },
		"a rhythm of noughts ahead": func(p *plain) { p.rhythms = slices.Insert(p.rhythms, 0, [5]int{1}) },
		"a rhythm that isn't right": func(p *plain) { p.rhythms[0][4] = 1<<50 + 1 },
		"a great rhythm":            func(p *plain) { p.rhythms[0][1] = 1<<62 + 1 },

		"17 past": func(p *plain) {
			for len(p.past) < 17 {
				twice(&p.past)
			}
		},
		"7 Lines":            func(p *plain) { p.past[0].Lines = make([]api.Line, 7) },
		"a Number too great": func(p *plain) { p.past[0].Number = 1<<62 + 1 },
		"a Cost too great":   func(p *plain) { p.past[0].Cost = 1<<62 + 1 },
		"a Price too great":  func(p *plain) { p.past[0].Lines[0].Price = 1<<62 + 1 },

		"known swapped": func(p *plain) { swap(p.known) }, "a known twice": func(p *plain) { twice(&p.known) },
		"a known gone": func(p *plain) { p.known = p.known[1:] }, "none known": func(p *plain) { p.known = nil },
		"a known more":          func(p *plain) { p.known = append(p.known, known{77, none}) },
		"a window of no bytes":  func(p *plain) { p.known[0].window = nil },
		"a window with a tail":  func(p *plain) { p.known[0].window = append(p.known[0].window, 0) },
		"a window that keeps 0": func(p *plain) { p.known[0].window[0] = 0 },
		"an Ended gone":         func(p *plain) { p.ended = p.ended[1:] },
		"an Ended twice":        func(p *plain) { twice(&p.ended) },
		"an Ended and a known twice": func(p *plain) {
			twice(&p.ended)
			p.known = slices.Insert(p.known, 1, p.known[0])
		},
		"an Ended that is open": func(p *plain) { p.ended = append(p.ended, 5) },
		"an Ended more":         func(p *plain) { p.ended = append(p.ended, 77) },
		"9 Ended": func(p *plain) {
			for id := 20; len(p.ended) < 9; id++ {
				p.ended, p.known = append(p.ended, id), append(p.known, known{id, none})
			}
		},
		"no events":          func(p *plain) { p.events = nil },
		"events with a tail": func(p *plain) { p.events = append(p.events, 0) },
		"events of another":  func(p *plain) { p.events = p.events[:4] },
	}
}

// taken are changes of the image of some, each of which leaves another server's bytes.
func taken(t *testing.T) map[string]bend {
	fresh, _ := window.New(4, true)
	none := written(t)(fresh.Write())
	return map[string]bend{
		"nothing": func(p *plain) {}, "the least config": func(p *plain) { p.config = [4]int{1, 1, 4, 0} },
		"the greatest config": func(p *plain) { p.config = [4]int{1 << 30, 16, 1 << 30, 1 << 61} },
		"another Limit":       func(p *plain) { p.nodes[0].Limit = 0 }, "the greatest Limit": func(p *plain) { p.nodes[0].Limit = 1 << 53 },
		"no Limit": func(p *plain) { p.nodes[0].Limit = -1 }, "an open node closed": func(p *plain) { p.nodes[4].Closed = true },
		"a closed node open":     func(p *plain) { p.nodes[1].Closed = false },
		"no nodes":               func(p *plain) { p.nodes = nil },
		"a node of Id 32 more":   func(p *plain) { p.nodes = append(p.nodes, tree.Node{Id: 32, Parent: 1, Kind: 3, Limit: -1}) },
		"carried, not topped":    func(p *plain) { p.accounts[3][1], p.accounts[3][2] = 0, p.accounts[3][1]+p.accounts[3][2] },
		"no plans":               func(p *plain) { p.plans = nil },
		"an empty sheet":         func(p *plain) { p.sheet = []byte{0} },
		"no rhythms":             func(p *plain) { p.rhythms = nil },
		"the greatest rhythm":    func(p *plain) { p.rhythms[0] = [5]int{6, 1 << 50, 1 << 50, 1 << 50, 1 << 50} },
		"a rhythm of a team":     func(p *plain) { p.rhythms = slices.Insert(p.rhythms, 0, [5]int{2, 0, 0, 0, 1}) },
		"no past":                func(p *plain) { p.past = nil },
		"an event without Lines": func(p *plain) { p.past[0].Lines = nil },
		"16 past and 6 Lines": func(p *plain) {
			p.past[0].Lines = slices.Repeat([]api.Line{{Tier: 5, Blocks: 1 << 62, Price: 1}}, 6)
			for len(p.past) < 16 {
				twice(&p.past)
			}
		},
		"the greatest event": func(p *plain) {
			p.past[0] = ledger.Past{Number: 1 << 62, Node: 1 << 62, Group: 1 << 62, Period: 1 << 62, Cost: 1 << 62, Back: true}
		},
		"past swapped": func(p *plain) { swap(p.past) },
		"8 Ended, in another order": func(p *plain) {
			for id := 26; len(p.ended) < 8; id-- {
				p.ended, p.known = append(p.ended, id), slices.Insert(p.known, len(p.known), known{id, none})
			}
			slices.SortFunc(p.known, func(a, b known) int { return a.id - b.id })
		},
		"an empty window": func(p *plain) { p.known[0].window = none },
		"no events":       func(p *plain) { p.events = []byte{1, 1, 1, 0} },
	}
}

func TestP25_1_WhatIsRefused(t *testing.T) {
	for what, change := range refused(t) {
		p := plainOf(t, some(t))
		change(&p)
		if b := p.bytes(); stands(b) {
			t.Errorf("%s: it should be refused", what)
		}
		refuses(t, what, p.bytes())
	}
}

func TestP25_1_WhatIsTaken(t *testing.T) {
	for what, change := range taken(t) {
		p := plainOf(t, some(t))
		change(&p)
		if b := p.bytes(); !stands(b) {
			t.Errorf("%s: it should be taken", what)
		}
		s := unpack(t, what, p.bytes())
		ticks(t, s, min(1, 1<<61-p.config[3]))
	}
}

// Each list has as much as there may be; then one more.
func TestP25_1_CountsAndOneMore(t *testing.T) {
	p := plainOf(t, full(t))
	p.rhythms = nil
	for node := 1; node <= 32; node++ {
		p.rhythms = append(p.rhythms, [5]int{node, 0, node})
	}
	b := p.bytes()
	if got := fmt.Sprint(len(p.nodes), len(p.accounts), len(p.plans), len(p.rhythms), len(p.past), len(p.known), len(p.ended)); got != "32 32 8 32 16 24 8" {
		t.Fatal(got)
	}
	unpack(t, "all full", b)
	for what, change := range map[string]bend{
		"33 nodes":    func(p *plain) { p.nodes = append(p.nodes, tree.Node{Id: 33, Parent: 2, Kind: 3, Limit: -1}) },
		"33 accounts": func(p *plain) { p.accounts = append(p.accounts, [6]int{33, 1}) },
		"9 plans":     func(p *plain) { p.plans = append(p.plans, []byte{0, 0, 0, 9, 1, 1, 1, 0, 1}) },
		"33 rhythms":  func(p *plain) { p.rhythms = append(p.rhythms, [5]int{33, 0, 1}) },
		"17 past":     func(p *plain) { twice(&p.past) },
		"25 known":    func(p *plain) { p.known = append(p.known, known{77, p.known[0].window}) },
		"9 Ended":     func(p *plain) { p.ended = append(p.ended, 77) },
		"25 known and 9 Ended": func(p *plain) {
			p.known, p.ended = append(p.known, known{77, p.known[0].window}), append(p.ended, 77)
		},
	} {
		p, _ := parse(b)
		change(&p)
		refuses(t, what, p.bytes())
	}
}

// topUps answers an image whose journal has so many entries.
func topUps(t *testing.T, n int) plain {
	t.Helper()
	p := plainOf(t, made(t, ledger.Config{Validity: 1, Places: 1, Day: 4}))
	e, _ := entry.Make(entry.TopUp, 3, []int{7}, 0)
	p.accounts = [][6]int{{7, 3 * n}}
	p.entries = slices.Repeat([]posted{{0, written(t)(entry.Write(e))}}, n)
	return p
}

func TestP25_1_AsManyEntriesAndOneMore(t *testing.T) {
	p := topUps(t, 16384)
	s := unpack(t, "16384 entries", p.bytes())
	if n := s.Ledger().Purse().Journal().Len(); n != 16384 || s.Ledger().Purse().Available(7) != 3*16384 {
		t.Errorf("%d entries", n)
	}
	refuses(t, "16385 entries", topUps(t, 16385).bytes())
	for i := range p.entries {
		p.entries[i].period = i / 512
	}
	p.open, p.accounts = 31, [][6]int{{7, 3 * 512, 3 * 31 * 512}}
	unpack(t, "32 periods", p.bytes())
	p.open, p.entries[16383].period = 32, 32
	refuses(t, "33 periods", p.bytes())
}

// A window may be as long as a Text may be; one byte more, and it has no room in an image.
func TestP25_1_TextsAndOneByteMore(t *testing.T) {
	for _, more := range []int{0, 1} {
		w, _ := window.New(64, false)
		for number := range 14 {
			w.Keep(number, make([]byte, 1<<16), bytes.Repeat([]byte{1}, 5000))
		}
		left := 1<<20 + more - len(written(t)(w.Write()))
		w.Keep(14, nil, make([]byte, left-5)) // its number, two counts of bytes, of which one has three
		if n := len(written(t)(w.Write())); n != 1<<20+more {
			t.Fatalf("%d bytes", n)
		}
		for _, events := range []bool{false, true} {
			s := remade(t, some(t), func(_ *ledger.Parts, q *server.Parts) {
				if events {
					q.Events = w
				} else {
					q.Sessions[1].Window = w
				}
			})
			b := pack(t, s)
			if more == 0 {
				unpack(t, "2^20 bytes", b)
			} else {
				refuses(t, "2^20 + 1 bytes", b)
			}
		}
	}
	for what, change := range map[string]func(p *plain, x []byte){
		"an entry": func(p *plain, x []byte) { p.entries[0].entry = x }, "a plan": func(p *plain, x []byte) { p.plans[0] = x },
		"a sheet": func(p *plain, x []byte) { p.sheet = x }, "a table": func(p *plain, x []byte) { p.table = x },
	} {
		for _, n := range []int{1 << 20, 1<<20 + 1} {
			p := plainOf(t, some(t))
			change(&p, make([]byte, n))
			refuses(t, what, p.bytes())
		}
	}
}

// asItStands holds that there is a server of bytes, if all of their parts are right, and answers whether there is one.
func asItStands(t *testing.T, what string, b []byte) bool {
	t.Helper()
	if !stands(b) {
		refuses(t, what, b)
		return false
	}
	unpack(t, what, b)
	return true
}

// Whatever bytes are cut off, put behind, or changed: there is a server of just those that are right part by part.
func TestP25_1_EachByte(t *testing.T) {
	b := pack(t, some(t))
	for i := range b {
		refuses(t, fmt.Sprint("the first ", i), b[:i])
	}
	for _, tail := range []string{"\x00", "\x01", "\xff", string(b)} {
		refuses(t, fmt.Sprintf("behind it %x", tail), append(slices.Clone(b), tail...))
	}
	right := 0
	for i := range b {
		for _, c := range []byte{b[i] + 1, b[i] - 1, b[i] ^ 0x80, b[i] ^ 0x40, b[i] + 2, 0, 1, 0x7f, 0xff} {
			x := slices.Clone(b)
			x[i] = c
			if asItStands(t, fmt.Sprintf("byte %d: %x", i, c), x) && c != b[i] {
				right++
			}
		}
		asItStands(t, fmt.Sprint("without byte ", i), slices.Delete(slices.Clone(b), i, i+1))
		asItStands(t, fmt.Sprint("a byte more at ", i), slices.Insert(slices.Clone(b), i, 0))
	}
	if right < 200 {
		t.Errorf("only %d others were right", right)
	}
}

// Numbers in another form are none.
func TestP25_1_OneFormAlone(t *testing.T) {
	b := pack(t, made(t, ledger.Config{Validity: 5, Places: 2, Day: 24}))
	refuses(t, "a group too many", slices.Concat([]byte{0x85, 0}, b[1:]))
	refuses(t, "a flag of 2", bytes.Replace(pack(t, some(t)), []byte{5, 0, 1}, []byte{5, 0, 1, 2}, 1))
	w := &codec.Writer{}
	w.Uint(1 << 62)
	great, _ := w.Bytes()
	refuses(t, "a great count of nodes", slices.Concat(b[:4], great, b[5:]))
	refuses(t, "a great count of entries", slices.Concat(b[:7], great, b[8:]))
	refuses(t, "a great count of Ended", slices.Concat(b[:18], great, b[19:]))
	refuses(t, "a great count of bytes", slices.Concat(b[:9], great, b[10:]))
}
