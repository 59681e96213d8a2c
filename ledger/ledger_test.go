package ledger_test

import (
	"fmt"
	"math"
	"reflect"
	"slices"
	"strings"
	"testing"

	"purser/api"
	"purser/credit"
	"purser/entry"
	"purser/invoice"
	"purser/ledger"
	"purser/period"
	"purser/rhythm"
	"purser/tariff"
	"purser/tree"
	"purser/usage"
	"purser/wire"
)

// some is a config for most tests.
var some = ledger.Config{Validity: 5, Places: 3, Day: 24}

// flat answers a plan of one tier.
func flat(group, price int) tariff.Plan {
	return tariff.Plan{Base: api.Tariff{Group: group, Mode: api.Graduated, Block: 1, Tiers: []api.Tier{{Price: price}}}}
}

// made answers a new ledger.
func made(t *testing.T, c ledger.Config) *ledger.Ledger {
	t.Helper()
	l, err := ledger.New(c)
	if err != api.OK {
		t.Fatalf("New(%+v): %d", c, err)
	}
	return l
}

// does holds that a request is answered without an error.
func does(t *testing.T, l *ledger.Ledger, r request) answer {
	t.Helper()
	a := l.Do(r)
	if a.Kind != r.Kind || a.Err != api.OK {
		t.Fatalf("%+v: %+v", r, a)
	}
	return a
}

// refuses holds that a request is answered with an error, and changes nothing.
func refuses(t *testing.T, what string, l *ledger.Ledger, r request, want api.Errno) {
	t.Helper()
	before := dump(l)
	kind := r.Kind
	if !within(kind, 1, 14) {
		kind = 0
	}
	if a := l.Do(r); !reflect.DeepEqual(a, answer{Kind: kind, Err: want}) {
		t.Errorf("%s: %+v: %+v, not the error %d", what, r, a, want)
	}
	if behind := dump(l); behind != before {
		t.Errorf("%s: %+v has changed\n%s\nto\n%s", what, r, before, behind)
	}
}

// ticks lets so many steps of time go by, and answers who is over by them.
func ticks(t *testing.T, l *ledger.Ledger, n int) []int {
	t.Helper()
	var all []int
	for range n {
		over, err := l.Tick()
		if err != api.OK {
			t.Fatalf("Tick: %d", err)
		}
		all = append(all, over...)
	}
	return all
}

// dump answers all that a ledger tells.
func dump(l *ledger.Ledger) string {
	var b strings.Builder
	p := l.Parts()
	fmt.Fprintln(&b, p.Config, p.Now, p.Plans, p.Rhythms, p.Past, l.Tree().Ids())
	for _, id := range l.Tree().Ids() {
		n, _ := l.Tree().Get(id)
		fmt.Fprintln(&b, n, l.Purse().Get(id))
	}
	j := l.Purse().Journal()
	fmt.Fprintln(&b, j.Len(), j.Period(), j.Accounts())
	for i := max(0, j.Len()-40); i < j.Len(); i++ {
		e, at, _ := j.At(i)
		fmt.Fprintln(&b, e, at)
	}
	sheet, _ := l.Sheet().Write()
	table, _ := l.Table().Write()
	fmt.Fprintf(&b, "%x\n%x\n", sheet, table)
	return b.String()
}

// sound holds what the chapter promises of any ledger: P23.2, P23.3 and P23.4.
func sound(t *testing.T, what string, l *ledger.Ledger) {
	t.Helper()
	j := l.Purse().Journal()
	for _, id := range l.Tree().Ids() {
		below, _ := l.Tree().Below(id)
		held := 0
		for _, under := range below {
			held += l.Table().Held(under)
		}
		a, available := l.Purse().Get(id), l.Purse().Available(id)
		if a.Held != held || a.Held < 0 || available < 0 {
			t.Errorf("%s: node %d: %d held, but %d for sessions; %d available", what, id, a.Held, held, available)
		}
		used := 0
		for group := 1; group <= 8; group++ {
			used -= j.Moved(entry.Account{Kind: entry.Usage, Node: id, Group: group}, j.Period())
		}
		funds, kept := j.Balance(entry.Account{Kind: entry.Funds, Node: id}), j.Balance(entry.Account{Kind: entry.Held, Node: id})
		if available != -funds || a.Held != -kept || a.Used != used {
			t.Errorf("%s: node %d: %+v, %d available, but the journal says %d, %d, %d", what, id, a, available, -funds, -kept, used)
		}
	}
	for _, id := range l.Table().Ids() {
		if s, _ := l.Table().Get(id); s.Deadline < l.Now() {
			t.Errorf("%s: at %d the session %+v is open", what, l.Now(), s)
		}
	}
}

// begin answers a ledger with an organization, a team and two projects, that have funds, and with plans of three groups.
func begin(t *testing.T, c ledger.Config) *ledger.Ledger {
	t.Helper()
	l := made(t, c)
	for i, r := range []request{
		{Node: 1, Sort: api.Org, Limit: -1}, {Node: 2, Parent: 1, Sort: api.Team, Limit: -1},
		{Node: 3, Parent: 2, Sort: api.Project, Limit: -1}, {Node: 4, Parent: 2, Sort: api.Project, Limit: -1},
	} {
		r.Kind = wire.Create
		does(t, l, r)
		does(t, l, request{Kind: wire.TopUp, Node: i + 1, Amount: 1000})
	}
	for group, price := range []int{1: 3, 2: 2, 3: 0} {
		if group > 0 {
			does(t, l, request{Kind: wire.Price, Plan: flat(group, price)})
		}
	}
	return l
}

// opens opens a session of project 3 that wants units of a group.
func opens(t *testing.T, l *ledger.Ledger, id, group, want int) answer {
	t.Helper()
	return does(t, l, request{Kind: wire.Initial, Session: id, Node: 3, Items: []item{{Group: group, Want: want}}})
}

// entries answers a journal's entries from one on.
func entries(l *ledger.Ledger, first int) []entry.Entry {
	var all []entry.Entry
	for i := first; i < l.Purse().Journal().Len(); i++ {
		e, _, _ := l.Purse().Journal().At(i)
		all = append(all, e)
	}
	return all
}

// posted answers an entry of the path 1, 2, 3.
func posted(kind, amount, group int) entry.Entry {
	e, _ := entry.Make(kind, amount, []int{1, 2, 3}, group)
	return e
}

// posts holds that just these entries came behind the first ones.
func posts(t *testing.T, what string, l *ledger.Ledger, first int, want ...entry.Entry) {
	t.Helper()
	got := entries(l, first)
	if !slices.EqualFunc(got, want, func(a, b entry.Entry) bool { return a.Kind == b.Kind && slices.Equal(a.Legs, b.Legs) }) {
		t.Errorf("%s: the entries %v, not %v", what, got, want)
	}
}

func TestP23_1_Configs(t *testing.T) {
	for _, c := range []ledger.Config{{1, 1, 4}, {1 << 30, 16, 1 << 30}, {7, 3, 24}, {1, 16, 5}} {
		l, err := ledger.New(c)
		if ledger.Check(c) != api.OK || err != api.OK || l.Config() != c || l.Now() != 0 {
			t.Errorf("%+v: %d, %d", c, ledger.Check(c), err)
		}
	}
	least, most := math.MinInt, math.MaxInt
	for _, c := range []ledger.Config{
		{}, {0, 1, 4}, {1<<30 + 1, 1, 4}, {1, 0, 4}, {1, 17, 4}, {1, 1, 3}, {1, 1, 1<<30 + 1}, {-1, 1, 4}, {1, -1, 4}, {1, 1, -4},
		{least, 1, 4}, {1, least, 4}, {1, 1, least}, {most, 1, 4}, {1, most, 4}, {1, 1, most},
	} {
		l, err := ledger.New(c)
		if ledger.Check(c) != api.ErrArg || l != nil || err != api.ErrArg {
			t.Errorf("%+v: %d, %v, %d", c, ledger.Check(c), l, err)
		}
	}
}

func TestP23_1_ANewLedgerHasNothing(t *testing.T) {
	l := made(t, some)
	agrees(t, "a new ledger", l, empty(some), 0)
	for kind := 1; kind <= 14; kind++ {
		want := map[int]api.Errno{wire.Create: api.ErrArg, wire.Price: api.ErrArg, wire.Refund: api.ErrStale, wire.Roll: api.OK}
		expected, named := want[kind]
		if !named {
			expected = api.ErrMiss
		}
		if a := made(t, some).Do(request{Kind: kind}); a.Kind != kind || a.Err != expected {
			t.Errorf("kind %d: %+v", kind, a)
		}
	}
}

func TestP23_1_TheChaptersExample(t *testing.T) {
	l := made(t, some)
	for i := 1; i <= 3; i++ {
		does(t, l, request{Kind: wire.Create, Node: i, Parent: i - 1, Sort: i, Limit: -1})
		does(t, l, request{Kind: wire.TopUp, Node: i, Amount: 100})
	}
	does(t, l, request{Kind: wire.Price, Plan: flat(1, 3)})
	a := opens(t, l, 1, 1, 10)
	if !slices.Equal(a.Grants, []one{{Group: 1, Units: 10, Amount: 30}}) || a.Deadline != 5 || l.Purse().Get(1).Held != 30 {
		t.Errorf("%+v", a)
	}
	a = does(t, l, request{Kind: wire.Update, Session: 1, Number: 1, Items: []item{{Group: 1, Used: 4, Want: 5}}})
	if !slices.Equal(a.Grants, []one{{Group: 1, Units: 5, Amount: 15}}) || a.Cost != 12 {
		t.Errorf("%+v", a)
	}
	a = does(t, l, request{Kind: wire.Terminate, Session: 1, Number: 2, Items: []item{{Group: 1, Used: 5}}})
	if !reflect.DeepEqual(a, answer{Kind: wire.Terminate, Cost: 15}) {
		t.Errorf("%+v", a)
	}
	a = does(t, l, request{Kind: wire.Balance, Node: 3})
	if a.Available != 73 || a.Account.Used != 27 || a.Account.Held != 0 {
		t.Errorf("%+v", a)
	}
}

// Each grant is settled in its order, and then each item granted, with an entry for what is moved alone.
func TestP23_1_EntriesOfASession(t *testing.T) {
	l := begin(t, some)
	first := l.Purse().Journal().Len()
	want := []item{{Group: 2, Want: 10}, {Group: 3, Want: 7}, {Group: 1, Want: 4}}
	a := does(t, l, request{Kind: wire.Initial, Session: 8, Node: 3, Items: want, Number: 77})
	if !slices.Equal(a.Grants, []one{{Group: 2, Units: 10, Amount: 20}, {Group: 3, Units: 7}, {Group: 1, Units: 4, Amount: 12}}) {
		t.Errorf("%+v", a)
	}
	posts(t, "Initial", l, first, posted(entry.Hold, 20, 0), posted(entry.Hold, 12, 0))
	first += 2
	// Of group 1 all is used, of group 2 nothing is told.
	used := []item{{Group: 1, Used: 4, Want: 2}, {Group: 3, Used: 5}}
	a = does(t, l, request{Kind: wire.Update, Session: 8, Number: 1, Items: used})
	if !slices.Equal(a.Grants, []one{{Group: 1, Units: 2, Amount: 6}}) || a.Cost != 12 {
		t.Errorf("%+v", a)
	}
	posts(t, "Update", l, first, posted(entry.Release, 20, 0), posted(entry.Commit, 12, 1), posted(entry.Hold, 6, 0))
	first += 3
	a = does(t, l, request{Kind: wire.Terminate, Session: 8, Number: 2, Items: []item{{Group: 1, Used: 1, Want: -7}}})
	if a.Cost != 3 {
		t.Errorf("%+v", a)
	}
	posts(t, "Terminate", l, first, posted(entry.Commit, 3, 1), posted(entry.Release, 3, 0))
	rows := []usage.Row{{Node: 3, Group: 1, Price: 3, Blocks: 5}, {Node: 3, Group: 3, Blocks: 5}}
	if got := l.Sheet().Rows(0, []int{1, 2, 3, 4}); !slices.Equal(got, rows) || len(l.Table().Ids()) != 0 || l.Table().Last() != 8 {
		t.Errorf("%v, %v", got, l.Table().Ids())
	}
	sound(t, "behind a session", l)
}

// What each group is granted, those ahead leave of the room; a group for which nothing is left has a grant of nothing.
func TestP23_1_GrantsOfSeveralGroups(t *testing.T) {
	l := begin(t, some)
	does(t, l, request{Kind: wire.Limit, Node: 2, Limit: 10})
	items := []item{{Group: 1, Want: 2}, {Group: 2, Want: 9}, {Group: 3, Want: maxUnits}}
	a := does(t, l, request{Kind: wire.Initial, Session: 1, Node: 3, Items: items})
	want := []one{{Group: 1, Units: 2, Amount: 6}, {Group: 2, Units: 2, Amount: 4, Final: true}, {Group: 3, Units: maxUnits}}
	if !slices.Equal(a.Grants, want) {
		t.Errorf("%+v", a)
	}
	does(t, l, request{Kind: wire.Price, Plan: flat(4, 1)})
	a = does(t, l, request{Kind: wire.Initial, Session: 2, Node: 4, Items: []item{{Group: 4, Want: 1}, {Group: 3, Want: 1}}})
	if !slices.Equal(a.Grants, []one{{Group: 4, Final: true}, {Group: 3, Units: 1}}) {
		t.Errorf("%+v", a)
	}
	refuses(t, "no room", l, request{Kind: wire.Initial, Session: 3, Node: 4, Items: []item{{Group: 1, Want: 1}, {Group: 2, Want: 1}}}, api.ErrCredit)
	// An Update's are of nothing then, and Final.
	a = does(t, l, request{Kind: wire.Update, Session: 2, Number: 1, Items: []item{{Group: 2, Want: 5}, {Group: 4, Want: 5}, {Group: 3}}})
	if !slices.Equal(a.Grants, []one{{Group: 2, Final: true}, {Group: 4, Final: true}}) || a.Cost != 0 {
		t.Errorf("%+v", a)
	}
	a = does(t, l, request{Kind: wire.Update, Session: 1, Number: 1})
	if len(a.Grants) != 0 || a.Deadline != 5 || l.Purse().Get(2).Held != 0 {
		t.Errorf("%+v", a)
	}
	sound(t, "many grants", l)
}

// A project may be closed while a session has nothing held there: then it is granted nothing more.
func TestP23_1_AClosedProjectIsGrantedNothing(t *testing.T) {
	l := begin(t, some)
	opens(t, l, 1, 3, 10)
	opens(t, l, 2, 1, 1)
	refuses(t, "something is held", l, request{Kind: wire.Shut, Node: 3}, api.ErrBusy)
	does(t, l, request{Kind: wire.Terminate, Session: 2, Number: 1})
	does(t, l, request{Kind: wire.Shut, Node: 3})
	a := does(t, l, request{Kind: wire.Update, Session: 1, Number: 1, Items: []item{{Group: 3, Used: 4, Want: 5}, {Group: 1, Want: 5}}})
	if !slices.Equal(a.Grants, []one{{Group: 3, Final: true}, {Group: 1, Final: true}}) || l.Sheet().Position(0, 3, 3) != 4 {
		t.Errorf("%+v", a)
	}
	refuses(t, "it is closed", l, request{Kind: wire.Initial, Session: 3, Node: 3, Items: []item{{Group: 3, Want: 1}}}, api.ErrClosed)
	does(t, l, request{Kind: wire.Terminate, Session: 1, Number: 2})
}

func TestP23_1_UsedOfWhatIsntGranted(t *testing.T) {
	l := begin(t, some)
	opens(t, l, 1, 1, 10)
	for _, kind := range []int{wire.Update, wire.Terminate} {
		for what, items := range map[string][]item{
			"one more":          {{Group: 1, Used: 11}},
			"of another group":  {{Group: 2, Used: 1}},
			"of no group":       {{Group: 0, Used: 1}},
			"one more, and all": {{Group: 2}, {Group: 1, Used: 11}},
		} {
			refuses(t, what, l, request{Kind: kind, Session: 1, Number: 1, Items: items}, api.ErrUsed)
		}
	}
	// Nothing used of a group that isn't there is nothing.
	a := does(t, l, request{Kind: wire.Update, Session: 1, Number: 1, Items: []item{{Group: 99}, {Group: -1}, {Group: 1, Used: 10}}})
	if a.Cost != 30 || len(a.Grants) != 0 {
		t.Errorf("%+v", a)
	}
	refuses(t, "no grants any more", l, request{Kind: wire.Terminate, Session: 1, Number: 2, Items: []item{{Group: 1, Used: 1}}}, api.ErrUsed)
	does(t, l, request{Kind: wire.Terminate, Session: 1, Number: 2, Items: []item{{Group: 99, Want: -5}}})
}

func TestP23_1_Deadlines(t *testing.T) {
	l := begin(t, some)
	opens(t, l, 1, 1, 10)
	ticks(t, l, 2)
	if a := opens(t, l, 2, 2, 5); a.Deadline != 7 {
		t.Errorf("%+v", a)
	}
	items := []item{{Group: 1, Want: 4}, {Group: 2, Want: 4}, {Group: 3, Want: 4}}
	if a := does(t, l, request{Kind: wire.Initial, Session: 3, Node: 3, Items: items}); a.Deadline != 7 {
		t.Errorf("%+v", a)
	}
	ticks(t, l, 3)
	// At its Deadline a session is open still, and may ask.
	if a := does(t, l, request{Kind: wire.Update, Session: 1, Number: 1, Items: []item{{Group: 1, Used: 1, Want: 2}}}); a.Deadline != 10 || l.Now() != 5 {
		t.Errorf("%+v", a)
	}
	if over := ticks(t, l, 2); len(over) != 0 {
		t.Errorf("over at %d: %v", l.Now(), over)
	}
	first := l.Purse().Journal().Len()
	if over := ticks(t, l, 1); !slices.Equal(over, []int{2, 3}) || l.Now() != 8 {
		t.Errorf("over at %d: %v", l.Now(), over)
	}
	// What is held for a session is released at once.
	posts(t, "a Tick", l, first, posted(entry.Release, 10, 0), posted(entry.Release, 20, 0))
	for _, kind := range []int{wire.Update, wire.Terminate} {
		refuses(t, "behind its time", l, request{Kind: kind, Session: 2, Number: 1}, api.ErrMiss)
	}
	refuses(t, "behind its time", l, request{Kind: wire.Initial, Session: 3, Node: 3, Items: items}, api.ErrStale)
	if over := ticks(t, l, 2); len(over) != 0 || l.Purse().Get(1).Held != 6 {
		t.Errorf("over at %d: %v", l.Now(), over)
	}
	if over := ticks(t, l, 1); !slices.Equal(over, []int{1}) || l.Now() != 11 || l.Purse().Get(1).Held != 0 {
		t.Errorf("over at %d: %v", l.Now(), over)
	}
	// A session that is over has no timer any more, whatever it was over by.
	opens(t, l, 4, 1, 1)
	does(t, l, request{Kind: wire.Terminate, Session: 4, Number: 1})
	if over := ticks(t, l, 20); len(over) != 0 {
		t.Errorf("over: %v", over)
	}
	sound(t, "behind all deadlines", l)
}

// The earliest Deadline comes first, of one Deadline the least number.
func TestP23_1_OverInTheOrderOfDeadlines(t *testing.T) {
	l := begin(t, ledger.Config{Validity: 2, Places: 5, Day: 4})
	for id := 1; id <= 5; id++ {
		opens(t, l, id, 3, 1)
	}
	p := l.Parts()
	for _, s := range []credit.Session{{Id: 1, Deadline: 4}, {Id: 2, Deadline: 3}, {Id: 3, Deadline: 4}, {Id: 4, Deadline: 0}, {Id: 5, Deadline: 3}} {
		s.Node = 3
		p.Table.Set(s)
	}
	p.Now = 4
	m, err := ledger.Make(p)
	if err != api.OK {
		t.Fatal(err)
	}
	// One Tick lets all come whose Deadline is past.
	if over := ticks(t, m, 1); !slices.Equal(over, []int{4, 2, 5, 1, 3}) {
		t.Errorf("over: %v", over)
	}
}

func TestP23_1_TheLastTime(t *testing.T) {
	p := begin(t, some).Parts()
	p.Now = maxNow - 1
	l, err := ledger.Make(p)
	if err != api.OK {
		t.Fatal(err)
	}
	opens(t, l, 1, 1, 5)
	ticks(t, l, 1)
	if a := opens(t, l, 2, 1, 5); a.Deadline != maxNow+5 || l.Now() != maxNow {
		t.Errorf("%+v", a)
	}
	before := dump(l)
	for range 2 {
		if over, err := l.Tick(); len(over) != 0 || err != api.ErrOver || dump(l) != before {
			t.Errorf("%v, %d", over, err)
		}
	}
	if a := does(t, l, request{Kind: wire.Update, Session: 1, Number: 1, Items: []item{{Group: 1, Used: 5, Want: 1}}}); a.Cost != 15 || a.Deadline != maxNow+5 {
		t.Errorf("%+v", a)
	}
	does(t, l, request{Kind: wire.Event, Number: 1, Node: 3, Group: 1, Units: 1})
}

// The tariff is the one at the time of usage, behind the position by then; what is held does for the dearest one.
func TestP23_1_TimeAndPosition(t *testing.T) {
	l := begin(t, some)
	day := api.Tariff{Group: 1, Mode: api.Graduated, Block: 10, Tiers: []api.Tier{{Upto: 2, Price: 7}, {Price: 5}}}
	night := api.Tariff{Group: 1, Mode: api.Volume, Block: 10, Tiers: []api.Tier{{Upto: 4, Price: 2}, {Price: 1}}}
	does(t, l, request{Kind: wire.Price, Plan: tariff.Plan{Day: 4, From: 2, To: 0, Base: day, Other: night}})
	if a := opens(t, l, 1, 1, 31); a.Grants[0].Amount != 28 {
		t.Errorf("%+v", a)
	}
	if a := does(t, l, request{Kind: wire.Update, Session: 1, Number: 1, Items: []item{{Group: 1, Used: 21, Want: 20}}}); a.Cost != 7+7+5 {
		t.Errorf("%+v", a)
	}
	ticks(t, l, 2)
	if a := does(t, l, request{Kind: wire.Event, Number: 1, Node: 3, Group: 1, Units: 1}); a.Cost != 2 {
		t.Errorf("%+v", a)
	}
	if a := does(t, l, request{Kind: wire.Terminate, Session: 1, Number: 2, Items: []item{{Group: 1, Used: 20}}}); a.Cost != 2 {
		t.Errorf("%+v", a)
	}
	want := []usage.Row{
		{Node: 3, Group: 1, Tier: 0, Price: 2, Blocks: 1}, {Node: 3, Group: 1, Tier: 0, Price: 7, Blocks: 2},
		{Node: 3, Group: 1, Tier: 1, Price: 1, Blocks: 2}, {Node: 3, Group: 1, Tier: 1, Price: 5, Blocks: 1},
	}
	if got := l.Sheet().Rows(0, []int{3}); !slices.Equal(got, want) {
		t.Errorf("%v, not %v", got, want)
	}
	// The next period begins behind nothing.
	does(t, l, request{Kind: wire.Roll, Carry: []int{1, 2, 3}})
	if a := does(t, l, request{Kind: wire.Event, Number: 2, Node: 3, Group: 1, Units: 50}); a.Cost != 5 {
		t.Errorf("%+v", a)
	}
	sound(t, "by day and night", l)
}

func TestP23_1_Rhythms(t *testing.T) {
	l := begin(t, ledger.Config{Validity: 50, Places: 3, Day: 10})
	opens(t, l, 1, 1, 50)
	// Of a day of 10 the quarters begin at 0, 3, 5 and 8.
	for now, want := range [][4]int{
		{3, 0, 0, 0}, {6, 0, 0, 0}, {9, 0, 0, 0}, {9, 3, 0, 0}, {9, 6, 0, 0}, {9, 6, 3, 0},
		{9, 6, 6, 0}, {9, 6, 9, 0}, {9, 6, 9, 3}, {9, 6, 9, 6}, {12, 6, 9, 6}, {15, 6, 9, 6},
	} {
		does(t, l, request{Kind: wire.Event, Number: now, Node: 3, Group: 3, Units: 1})
		does(t, l, request{Kind: wire.Update, Session: 1, Number: now + 1, Items: []item{{Group: 1, Used: min(now, 1) * 2, Want: 5}}})
		if now == 0 {
			does(t, l, request{Kind: wire.Event, Number: now, Node: 3, Group: 3, Units: 2})
		}
		if got := l.Rhythm(3); got.Quarters != want || l.Rhythm(4) != (rhythm.Rhythm{}) || len(l.Parts().Rhythms) != 1 {
			t.Errorf("at %d: %v, not %v", now, got, want)
		}
		ticks(t, l, 1)
	}
	// What is refunded was used then all the same.
	does(t, l, request{Kind: wire.Refund, Of: 11})
	if got := l.Rhythm(3).Quarters[0]; got != 15 {
		t.Errorf("behind a Refund: %d", got)
	}
	does(t, l, request{Kind: wire.Event, Number: 99, Node: 4, Group: 3, Units: 9})
	if l.Rhythm(4).Quarters[0] != 9 || len(l.Parts().Rhythms) != 2 {
		t.Errorf("%v", l.Parts().Rhythms)
	}
	does(t, l, request{Kind: wire.Roll})
	if len(l.Parts().Rhythms) != 0 || l.Rhythm(3) != (rhythm.Rhythm{}) {
		t.Errorf("behind a Roll: %v", l.Parts().Rhythms)
	}
}

// A rhythm that would be too great stays as it is.
func TestP23_1_AGreatRhythm(t *testing.T) {
	p := begin(t, some).Parts()
	p.Rhythms = map[int]rhythm.Rhythm{3: {Quarters: [4]int{1<<50 - 4, 1 << 50, 0, 7}}}
	l, err := ledger.Make(p)
	if err != api.OK {
		t.Fatal(err)
	}
	for i, want := range []int{1<<50 - 1, 1<<50 - 1, 1 << 50, 1 << 50} {
		if a := does(t, l, request{Kind: wire.Event, Number: i, Node: 3, Group: 1, Units: []int{3, 2, 1, 1}[i]}); a.Cost != []int{9, 6, 3, 3}[i] {
			t.Errorf("%+v", a)
		}
		if got := l.Rhythm(3).Quarters; got != [4]int{want, 1 << 50, 0, 7} {
			t.Errorf("%v, not %d", got, want)
		}
	}
}

func TestP23_1_Events(t *testing.T) {
	l := begin(t, some)
	first := l.Purse().Journal().Len()
	if a := does(t, l, request{Kind: wire.Event, Number: 1, Node: 3, Group: 1, Units: 4}); !reflect.DeepEqual(a, answer{Kind: wire.Event, Cost: 12}) {
		t.Errorf("%+v", a)
	}
	posts(t, "Event", l, first, posted(entry.Hold, 12, 0), posted(entry.Commit, 12, 1))
	// What costs nothing moves nothing.
	if a := does(t, l, request{Kind: wire.Event, Number: 2, Node: 3, Group: 3, Units: maxUnits}); a.Cost != 0 || l.Sheet().Position(0, 3, 3) != maxUnits {
		t.Errorf("%+v", a)
	}
	posts(t, "an Event at 0", l, first+2)
	want := []ledger.Past{
		{Number: 1, Node: 3, Group: 1, Cost: 12, Lines: []api.Line{{Tier: 0, Blocks: 4, Price: 3}}},
		{Number: 2, Node: 3, Group: 3, Lines: []api.Line{{Tier: 0, Blocks: maxUnits, Price: 0}}},
	}
	if got := l.Past(); !slices.EqualFunc(got, want, samePast) {
		t.Errorf("%+v, not %+v", got, want)
	}
	for i, of := range []int{1, 2} {
		if a := does(t, l, request{Kind: wire.Refund, Number: 9, Of: of}); !reflect.DeepEqual(a, answer{Kind: wire.Refund, Cost: want[i].Cost}) {
			t.Errorf("%+v", a)
		}
		want[i].Back = true
		if got := l.Past(); !slices.EqualFunc(got, want, samePast) {
			t.Errorf("%+v, not %+v", got, want)
		}
		refuses(t, "once more", l, request{Kind: wire.Refund, Number: 10, Of: of}, api.ErrThere)
	}
	posts(t, "Refunds", l, first+2, posted(entry.Refund, 12, 1))
	if l.Sheet().Len() != 0 || l.Purse().Available(3) != 1000 {
		t.Errorf("%d rows, %d available", l.Sheet().Len(), l.Purse().Available(3))
	}
	sound(t, "behind refunds", l)
}

func TestP23_1_ManyEvents(t *testing.T) {
	l := begin(t, some)
	for i := 1; i <= 17; i++ {
		does(t, l, request{Kind: wire.Event, Number: 100 + i, Node: 3, Group: 1, Units: i})
		if n := len(l.Past()); n != min(i, 16) {
			t.Errorf("%d events: %d past", i, n)
		}
	}
	if l.Past()[0].Number != 102 || l.Past()[15].Number != 117 {
		t.Errorf("%+v", l.Past())
	}
	refuses(t, "forgotten", l, request{Kind: wire.Refund, Number: 1, Of: 101}, api.ErrStale)
	refuses(t, "never there", l, request{Kind: wire.Refund, Number: 1, Of: 1}, api.ErrStale)
	if a := does(t, l, request{Kind: wire.Refund, Number: 1, Of: 102}); a.Cost != 6 {
		t.Errorf("%+v", a)
	}
	// Of several of one number the last one counts.
	does(t, l, request{Kind: wire.Event, Number: 110, Node: 4, Group: 2, Units: 50})
	if a := does(t, l, request{Kind: wire.Refund, Number: 1, Of: 110}); a.Cost != 100 || l.Purse().Get(4).Used != 0 {
		t.Errorf("%+v", a)
	}
	refuses(t, "the last one was", l, request{Kind: wire.Refund, Number: 1, Of: 110}, api.ErrThere)
	does(t, l, request{Kind: wire.Roll})
	refuses(t, "an earlier period", l, request{Kind: wire.Refund, Number: 1, Of: 117}, api.ErrStale)
	refuses(t, "an earlier period, refunded", l, request{Kind: wire.Refund, Number: 1, Of: 110}, api.ErrStale)
	sound(t, "behind a Roll", l)
}

// A shut project's event is refunded still.
func TestP23_1_RefundOfAShutProject(t *testing.T) {
	l := begin(t, some)
	does(t, l, request{Kind: wire.Event, Number: 1, Node: 3, Group: 1, Units: 4})
	refuses(t, "something was used", l, request{Kind: wire.Move, Node: 3, Parent: 2}, api.ErrBusy)
	does(t, l, request{Kind: wire.Shut, Node: 3})
	if a := does(t, l, request{Kind: wire.Refund, Of: 1}); a.Cost != 12 || l.Purse().Available(3) != 1000 {
		t.Errorf("%+v", a)
	}
}

func TestP23_1_MoveAndShutWithHolds(t *testing.T) {
	l := begin(t, some)
	does(t, l, request{Kind: wire.Create, Node: 5, Parent: 1, Sort: api.Team, Limit: -1})
	opens(t, l, 1, 1, 10)
	for _, node := range []int{1, 2, 3} {
		refuses(t, "held", l, request{Kind: wire.Move, Node: node, Parent: 5}, api.ErrBusy)
		refuses(t, "held", l, request{Kind: wire.Shut, Node: node}, api.ErrBusy)
	}
	does(t, l, request{Kind: wire.Update, Session: 1, Number: 1, Items: []item{{Group: 1, Used: 1}}})
	for _, node := range []int{1, 2, 3} {
		refuses(t, "used", l, request{Kind: wire.Move, Node: node, Parent: 5}, api.ErrBusy)
	}
	does(t, l, request{Kind: wire.Move, Node: 4, Parent: 5})
	does(t, l, request{Kind: wire.Shut, Node: 4})
	// In the next period nothing was used yet: a session without holds goes with its project.
	does(t, l, request{Kind: wire.Roll, Carry: []int{1, 2, 3, 5}})
	does(t, l, request{Kind: wire.TopUp, Node: 5, Amount: 7})
	does(t, l, request{Kind: wire.Move, Node: 3, Parent: 5})
	a := does(t, l, request{Kind: wire.Update, Session: 1, Number: 2, Items: []item{{Group: 1, Want: 5}}})
	if !slices.Equal(a.Grants, []one{{Group: 1, Units: 2, Amount: 6, Final: true}}) || l.Purse().Get(2).Held != 0 || l.Purse().Get(5).Held != 6 {
		t.Errorf("%+v", a)
	}
	refuses(t, "held", l, request{Kind: wire.Move, Node: 3, Parent: 2}, api.ErrBusy)
	does(t, l, request{Kind: wire.Shut, Node: 2})
	sound(t, "behind moves", l)
}

func TestP23_1_PriceOfWhatIsGranted(t *testing.T) {
	l := begin(t, some)
	does(t, l, request{Kind: wire.Initial, Session: 1, Node: 3, Items: []item{{Group: 1, Want: 334}, {Group: 3, Want: 5}}})
	does(t, l, request{Kind: wire.Price, Plan: flat(2, 9)})
	for _, group := range []int{1, 3} {
		refuses(t, "granted", l, request{Kind: wire.Price, Plan: flat(group, 9)}, api.ErrBusy)
	}
	// A grant of nothing is one, too.
	a := does(t, l, request{Kind: wire.Update, Session: 1, Number: 1, Items: []item{{Group: 1, Want: 333}, {Group: 2, Want: 1}}})
	if !slices.Equal(a.Grants, []one{{Group: 1, Units: 333, Amount: 999}, {Group: 2, Final: true}}) {
		t.Errorf("%+v", a)
	}
	refuses(t, "granted nothing", l, request{Kind: wire.Price, Plan: flat(2, 1)}, api.ErrBusy)
	does(t, l, request{Kind: wire.Price, Plan: flat(3, 9)})
	does(t, l, request{Kind: wire.Terminate, Session: 1, Number: 2})
	does(t, l, request{Kind: wire.Price, Plan: flat(2, 1)})
	if p, ok := l.Plan(2); !ok || !samePlan(p, flat(2, 1)) {
		t.Errorf("%+v", p)
	}
}

func TestP23_1_RollWithHolds(t *testing.T) {
	l := begin(t, some)
	opens(t, l, 1, 1, 10)
	does(t, l, request{Kind: wire.Event, Number: 1, Node: 3, Group: 1, Units: 20})
	// 910 of each of 1 to 3, and 1000 of 4 are available.
	if a := does(t, l, request{Kind: wire.Roll, Carry: []int{2, 99, -1, 2}}); !reflect.DeepEqual(a, answer{Kind: wire.Roll, Expired: 2820}) {
		t.Errorf("%+v", a)
	}
	if a := does(t, l, request{Kind: wire.Balance, Node: 3}); a.Available != 0 || a.Account.Held != 30 || a.Account.Carried != 30 {
		t.Errorf("%+v", a)
	}
	if a := does(t, l, request{Kind: wire.Balance, Node: 2}); a.Available != 910 || a.Account.Carried != 940 {
		t.Errorf("%+v", a)
	}
	// It is used in the period in which it is told.
	if a := does(t, l, request{Kind: wire.Terminate, Session: 1, Number: 1, Items: []item{{Group: 1, Used: 9}}}); a.Cost != 27 {
		t.Errorf("%+v", a)
	}
	if l.Sheet().Position(0, 3, 1) != 20 || l.Sheet().Position(1, 3, 1) != 9 || l.Purse().Get(3).Used != 27 {
		t.Errorf("%d, %d", l.Sheet().Position(0, 3, 1), l.Sheet().Position(1, 3, 1))
	}
	sound(t, "behind a Roll", l)
	for range 30 {
		does(t, l, request{Kind: wire.Roll})
	}
	refuses(t, "the last period", l, request{Kind: wire.Roll}, api.ErrFull)
}

func TestP23_1_Bills(t *testing.T) {
	l := begin(t, some)
	does(t, l, request{Kind: wire.Event, Number: 1, Node: 3, Group: 1, Units: 20})
	does(t, l, request{Kind: wire.Event, Number: 2, Node: 4, Group: 2, Units: 5})
	for _, period := range []int{0, 1, 31, 32, math.MaxInt} {
		refuses(t, "an open period", l, request{Kind: wire.Bill, Node: 1, Period: period}, api.ErrMiss)
	}
	refuses(t, "no period", l, request{Kind: wire.Bill, Node: 1, Period: -1}, api.ErrArg)
	refuses(t, "no node", l, request{Kind: wire.Bill, Node: 9, Period: -1}, api.ErrMiss)
	does(t, l, request{Kind: wire.Roll})
	refuses(t, "the open period", l, request{Kind: wire.Bill, Node: 1, Period: 1}, api.ErrMiss)
	for node, want := range map[int]int{1: 70, 2: 70, 3: 60, 4: 10} {
		a := does(t, l, request{Kind: wire.Bill, Node: node})
		x, err := invoice.Read(a.Invoice)
		if x.Node != node || x.Period != 0 || x.Total != want || err != api.OK {
			t.Errorf("node %d: %+v, %d, not %d", node, x, err, want)
		}
		below, _ := l.Tree().Below(node)
		if made, _ := invoice.Make(l.Tree(), l.Sheet(), node, 0); !reflect.DeepEqual(x, made) || !reflect.DeepEqual(a, answer{Kind: wire.Bill, Invoice: a.Invoice}) {
			t.Errorf("%+v, not %+v", x, made)
		}
		net, ok := invoice.Net(l.Purse().Journal(), []int{node}, 0)
		if !ok || net != want {
			t.Errorf("node %d: the journal says %d, below it are %v", node, net, below)
		}
	}
}

// many puts so many rows of no price on a sheet, of a period that won't come.
func many(t *testing.T, l *ledger.Ledger, rows int) {
	t.Helper()
	var lines []api.Line
	for i := range rows {
		lines = append(lines, api.Line{Tier: 5, Blocks: 1, Price: i})
	}
	if err := l.Sheet().Add(31, 32, 8, lines); err != api.OK {
		t.Fatal(err)
	}
}

// Such a ledger begins nothing; what is open goes on, and ends.
func nearlyFull(t *testing.T, l *ledger.Ledger) {
	t.Helper()
	for _, r := range []request{
		{Kind: wire.Initial, Session: 99, Node: 3, Items: []item{{Group: 3, Want: 1}}},
		{Kind: wire.Event, Number: 99, Node: 3, Group: 3, Units: 1},
		{Kind: wire.Refund, Number: 99, Of: 7},
		{Kind: wire.TopUp, Node: 1, Amount: 1},
		{Kind: wire.Roll},
	} {
		refuses(t, "nearly full", l, r, api.ErrFull)
	}
	number := 1
	for _, id := range l.Table().Ids() {
		s, _ := l.Table().Get(id)
		number = s.Number + 1
		a := does(t, l, request{Kind: wire.Update, Session: id, Number: number, Items: []item{{Group: 1, Used: 2, Want: 1}, {Group: 3, Want: 1}}})
		if !slices.Equal(a.Grants, []one{{Group: 1, Final: true}, {Group: 3, Final: true}}) || a.Cost != 6 {
			t.Errorf("%+v", a)
		}
	}
	for _, r := range []request{
		{Kind: wire.Create, Node: 9, Sort: api.Org, Limit: -1},
		{Kind: wire.Limit, Node: 9, Limit: 5},
		{Kind: wire.Shut, Node: 9},
		{Kind: wire.Price, Plan: flat(8, 1)},
		{Kind: wire.Balance, Node: 1},
	} {
		does(t, l, r)
	}
	does(t, l, request{Kind: wire.Terminate, Session: l.Table().Last(), Number: number + 1})
	sound(t, "nearly full", l)
}

func TestP23_1_NearlyFullByTheJournal(t *testing.T) {
	l := begin(t, some)
	opens(t, l, 5, 1, 10)
	does(t, l, request{Kind: wire.Event, Number: 7, Node: 3, Group: 1, Units: 1})
	for l.Purse().Journal().Len() < 15870 {
		does(t, l, request{Kind: wire.TopUp, Node: 1, Amount: 1})
	}
	does(t, l, request{Kind: wire.Event, Number: 8, Node: 3, Group: 1, Units: 1})
	if n := l.Purse().Journal().Len(); n != 15872 {
		t.Fatalf("%d entries", n)
	}
	// With just so many it isn't yet: an Update may settle, and is granted only what its entries leave room for.
	m := again(t, l)
	opens(t, m, 6, 1, 10)
	nearlyFull(t, m)
}

func TestP23_1_AnUpdateThatFillsTheJournal(t *testing.T) {
	l := begin(t, some)
	opens(t, l, 5, 1, 10)
	for l.Purse().Journal().Len() < 15871 {
		does(t, l, request{Kind: wire.TopUp, Node: 1, Amount: 1})
	}
	// It is settled by one entry, and granted by one more: then there are too many, and the next one gets nothing.
	a := does(t, l, request{Kind: wire.Update, Session: 5, Number: 1, Items: []item{{Group: 1, Used: 10, Want: 10}}})
	if !slices.Equal(a.Grants, []one{{Group: 1, Units: 10, Amount: 30}}) || l.Purse().Journal().Len() != 15873 {
		t.Errorf("%+v, %d entries", a, l.Purse().Journal().Len())
	}
	a = does(t, l, request{Kind: wire.Update, Session: 5, Number: 2, Items: []item{{Group: 1, Used: 4, Want: 10}}})
	if !slices.Equal(a.Grants, []one{{Group: 1, Final: true}}) || a.Cost != 12 || l.Purse().Journal().Len() != 15875 {
		t.Errorf("%+v, %d entries", a, l.Purse().Journal().Len())
	}
	l = begin(t, some)
	opens(t, l, 5, 1, 10)
	for l.Purse().Journal().Len() < 15871 {
		does(t, l, request{Kind: wire.TopUp, Node: 1, Amount: 1})
	}
	// Here settling alone makes too many.
	a = does(t, l, request{Kind: wire.Update, Session: 5, Number: 1, Items: []item{{Group: 1, Used: 4, Want: 10}}})
	if !slices.Equal(a.Grants, []one{{Group: 1, Final: true}}) || a.Cost != 12 || l.Purse().Journal().Len() != 15873 {
		t.Errorf("%+v, %d entries", a, l.Purse().Journal().Len())
	}
}

func TestP23_1_NearlyFullByTheSheet(t *testing.T) {
	l := begin(t, some)
	opens(t, l, 5, 1, 10)
	many(t, l, 3582)
	does(t, l, request{Kind: wire.Event, Number: 7, Node: 3, Group: 1, Units: 1})
	does(t, l, request{Kind: wire.Event, Number: 8, Node: 4, Group: 1, Units: 1})
	if n := l.Sheet().Len(); n != 3584 {
		t.Fatalf("%d rows", n)
	}
	m := again(t, l)
	opens(t, m, 6, 1, 10)
	does(t, m, request{Kind: wire.Event, Number: 9, Node: 4, Group: 2, Units: 1})
	nearlyFull(t, m)
}

// All that may be open when it gets nearly full can be settled, with as many entries and rows as may come of that.
func TestP23_1_RoomForAllThatIsOpen(t *testing.T) {
	for _, end := range []string{"Update", "Terminate", "Tick"} {
		l := made(t, ledger.Config{Validity: 5, Places: 16, Day: 24})
		does(t, l, request{Kind: wire.Create, Node: 1, Sort: api.Org, Limit: -1})
		does(t, l, request{Kind: wire.Create, Node: 2, Parent: 1, Sort: api.Team, Limit: -1})
		for node := range 19 {
			if node > 2 {
				does(t, l, request{Kind: wire.Create, Node: node, Parent: 2, Sort: api.Project, Limit: -1})
			}
			if node > 0 {
				does(t, l, request{Kind: wire.TopUp, Node: node, Amount: 100000})
			}
		}
		var items, used []item
		for group := 1; group <= 4; group++ {
			tiers := []api.Tier{{Upto: 1, Price: 9}, {Upto: 2, Price: 8}, {Upto: 3, Price: 7}, {Upto: 4, Price: 6}, {Upto: 5, Price: 5}, {Price: 4}}
			does(t, l, request{Kind: wire.Price, Plan: tariff.Plan{Base: api.Tariff{Group: group, Mode: api.Graduated, Block: 1, Tiers: tiers}}})
			items, used = append(items, item{Group: group, Want: 7}), append(used, item{Group: group, Used: 6, Want: 3})
		}
		many(t, l, 3584)
		for l.Purse().Journal().Len() < 15872-60 {
			does(t, l, request{Kind: wire.TopUp, Node: 1, Amount: 1})
		}
		for i := range 16 {
			does(t, l, request{Kind: wire.Initial, Session: i + 1, Node: i + 3, Items: items})
		}
		if n := l.Purse().Journal().Len(); n != 15876 {
			t.Errorf("%d entries", n)
		}
		for i := range 16 {
			switch end {
			case "Update":
				if a := does(t, l, request{Kind: wire.Update, Session: i + 1, Number: 1, Items: used}); a.Cost != 4*39 || a.Grants[0].Units != 0 {
					t.Errorf("%+v", a)
				}
			case "Terminate":
				if a := does(t, l, request{Kind: wire.Terminate, Session: i + 1, Number: 1, Items: used}); a.Cost != 4*39 {
					t.Errorf("%+v", a)
				}
			}
		}
		if over := ticks(t, l, 6); (len(over) == 16) != (end != "Terminate") {
			t.Errorf("%s: over %v", end, over)
		}
		if l.Purse().Get(1).Held != 0 || end != "Tick" && (l.Sheet().Len() != 3584+16*24 || l.Purse().Get(1).Used != 16*4*39) {
			t.Errorf("%s: %+v, %d rows", end, l.Purse().Get(1), l.Sheet().Len())
		}
		sound(t, end, l)
	}
}

// At a position of 2^39 something is granted still, and all that is granted then can be settled.
func TestP23_1_GreatPositions(t *testing.T) {
	l := begin(t, ledger.Config{Validity: 5, Places: 16, Day: 24})
	blocks := []api.Line{{Tier: 0, Blocks: 1 << 39, Price: 0}}
	l.Sheet().Add(0, 3, 3, blocks)
	for id := 1; id <= 16; id++ {
		opens(t, l, id, 3, maxUnits)
	}
	does(t, l, request{Kind: wire.Event, Number: 1, Node: 3, Group: 3, Units: maxUnits})
	for _, r := range []request{
		{Kind: wire.Event, Number: 1, Node: 3, Group: 3, Units: 1},
		{Kind: wire.Update, Session: 1, Number: 1, Items: []item{{Group: 3, Used: 1, Want: 1}}},
	} {
		refuses(t, "a great position", l, r, api.ErrOver)
	}
	for id := 1; id <= 16; id++ {
		does(t, l, request{Kind: wire.Update, Session: id, Number: 1, Items: []item{{Group: 3, Used: maxUnits}, {Group: 1, Want: 1}}})
	}
	if n := l.Sheet().Position(0, 3, 3); n != 1<<39+17*maxUnits {
		t.Errorf("%d blocks", n)
	}
	// It is the position that there is ahead of it, and in the open period.
	l = begin(t, some)
	l.Sheet().Add(0, 3, 3, blocks)
	opens(t, l, 1, 3, 2)
	a := does(t, l, request{Kind: wire.Update, Session: 1, Number: 1, Items: []item{{Group: 3, Used: 1, Want: 1}}})
	if !slices.Equal(a.Grants, []one{{Group: 3, Units: 1}}) {
		t.Errorf("%+v", a)
	}
	refuses(t, "one more", l, request{Kind: wire.Initial, Session: 2, Node: 3, Items: []item{{Group: 3, Want: 1}}}, api.ErrOver)
	does(t, l, request{Kind: wire.Initial, Session: 2, Node: 4, Items: []item{{Group: 3, Want: 1}}})
	does(t, l, request{Kind: wire.Roll, Carry: []int{1, 2, 3}})
	opens(t, l, 3, 3, 1)
}

func TestP23_1_NumbersAtTheirEdges(t *testing.T) {
	l := begin(t, some)
	does(t, l, request{Kind: wire.TopUp, Node: 3, Amount: maxAmount - 1000})
	refuses(t, "one more", l, request{Kind: wire.TopUp, Node: 3, Amount: 1}, api.ErrOver)
	refuses(t, "as much again", l, request{Kind: wire.TopUp, Node: 3, Amount: maxAmount}, api.ErrOver)
	for _, amount := range []int{0, -1, maxAmount + 1, math.MinInt, math.MaxInt} {
		refuses(t, "no amount", l, request{Kind: wire.TopUp, Node: 3, Amount: amount}, api.ErrArg)
	}
	if a := opens(t, l, 1, 3, maxUnits); a.Grants[0].Units != maxUnits {
		t.Errorf("%+v", a)
	}
	does(t, l, request{Kind: wire.Update, Session: 1, Number: 1, Items: []item{{Group: 3, Used: maxUnits, Want: maxUnits}}})
	does(t, l, request{Kind: wire.Event, Number: math.MinInt, Node: 3, Group: 3, Units: maxUnits})
	does(t, l, request{Kind: wire.Refund, Of: math.MinInt})
	if a := does(t, l, request{Kind: wire.Initial, Session: 1 << 62, Node: 4, Items: []item{{Group: 3, Want: 1}}}); a.Deadline != 5 {
		t.Errorf("%+v", a)
	}
	refuses(t, "behind the last one", l, request{Kind: wire.Initial, Session: 1 << 62, Node: 4, Items: []item{{Group: 3, Want: 1}}}, api.ErrStale)
	// The dearest usage of all: 2^50.
	for node := 1; node <= 2; node++ {
		does(t, l, request{Kind: wire.TopUp, Node: node, Amount: maxAmount - 1000})
	}
	does(t, l, request{Kind: wire.Price, Plan: flat(8, api.MaxPrice)})
	if a := does(t, l, request{Kind: wire.Event, Number: 1, Node: 3, Group: 8, Units: maxUnits}); a.Cost != 1<<50 {
		t.Errorf("%+v", a)
	}
	sound(t, "at the edges", l)
}

// Behind the greatest number a session can't ask for more, but end.
func TestP23_1_ASessionsLastNumber(t *testing.T) {
	p := begin(t, some).Parts()
	p.Table.Add(credit.Session{Id: 1, Node: 3, Number: 1 << 62, Deadline: 9})
	l, err := ledger.Make(p)
	if err != api.OK {
		t.Fatal(err)
	}
	refuses(t, "no number", l, request{Kind: wire.Update, Session: 1, Number: 1<<62 + 1}, api.ErrArg)
	does(t, l, request{Kind: wire.Terminate, Session: 1, Number: 1<<62 + 1})
}

func TestP23_1_PartsAndMake(t *testing.T) {
	l := begin(t, some)
	opens(t, l, 1, 1, 10)
	ticks(t, l, 3)
	opens(t, l, 2, 2, 10)
	does(t, l, request{Kind: wire.Price, Plan: flat(8, 1)})
	does(t, l, request{Kind: wire.Price, Plan: flat(5, 1)})
	does(t, l, request{Kind: wire.Event, Number: 1, Node: 3, Group: 1, Units: 3})
	p := l.Parts()
	if p.Config != some || p.Now != 3 || p.Tree != l.Tree() || p.Purse != l.Purse() || p.Sheet != l.Sheet() || p.Table != l.Table() {
		t.Errorf("%+v", p)
	}
	var groups []int
	for _, plan := range p.Plans {
		groups = append(groups, plan.Base.Group)
	}
	if !slices.Equal(groups, []int{1, 2, 3, 5, 8}) || len(p.Rhythms) != 1 || p.Rhythms[3] != l.Rhythm(3) || !slices.EqualFunc(p.Past, l.Past(), samePast) {
		t.Errorf("%v, %v, %v", groups, p.Rhythms, p.Past)
	}
	slices.Reverse(p.Plans)
	p.Rhythms[7], p.Rhythms[99] = rhythm.Rhythm{}, rhythm.Rhythm{Quarters: [4]int{-1, 2, 3, 4}}
	m, err := ledger.Make(p)
	if err != api.OK {
		t.Fatal(err)
	}
	delete(p.Rhythms, 7)
	slices.Reverse(p.Plans)
	if !reflect.DeepEqual(m.Parts(), p) || m.Rhythm(99).Quarters[1] != 2 {
		t.Errorf("%+v, not %+v", m.Parts(), p)
	}
	// Both sessions have their timers.
	if over := ticks(t, m, 3); !slices.Equal(over, []int{1}) || m.Now() != 6 {
		t.Errorf("over: %v", over)
	}
	if over := ticks(t, m, 3); !slices.Equal(over, []int{2}) {
		t.Errorf("over: %v", over)
	}
}

func TestP23_1_WhatMakeRefuses(t *testing.T) {
	for what, bend := range map[string]func(p *ledger.Parts){
		"no Config":         func(p *ledger.Parts) { p.Config = ledger.Config{} },
		"Places":            func(p *ledger.Parts) { p.Config.Places = 17 },
		"Validity":          func(p *ledger.Parts) { p.Config.Validity = 0 },
		"Day":               func(p *ledger.Parts) { p.Config.Day = 3 },
		"Now below 0":       func(p *ledger.Parts) { p.Now = -1 },
		"Now above 2^61":    func(p *ledger.Parts) { p.Now = maxNow + 1 },
		"the greatest Now":  func(p *ledger.Parts) { p.Now = math.MaxInt },
		"no Tree":           func(p *ledger.Parts) { p.Tree = nil },
		"no Purse":          func(p *ledger.Parts) { p.Purse = nil },
		"no Sheet":          func(p *ledger.Parts) { p.Sheet = nil },
		"no Table":          func(p *ledger.Parts) { p.Table = nil },
		"17 events":         func(p *ledger.Parts) { p.Past = make([]ledger.Past, 17) },
		"an empty plan":     func(p *ledger.Parts) { p.Plans = append(p.Plans, tariff.Plan{}) },
		"a plan of group 9": func(p *ledger.Parts) { p.Plans = append(p.Plans, flat(9, 1)) },
		"a bent plan":       func(p *ledger.Parts) { p.Plans[1].From = 5 },
		"two of one group":  func(p *ledger.Parts) { p.Plans = append(p.Plans, flat(2, 1)) },
	} {
		p := begin(t, some).Parts()
		bend(&p)
		if l, err := ledger.Make(p); l != nil || err != api.ErrArg {
			t.Errorf("%s: %v, %d", what, l, err)
		}
	}
	if l, err := ledger.Make(ledger.Parts{}); l != nil || err != api.ErrArg {
		t.Errorf("nothing: %v, %d", l, err)
	}
	for what, bend := range map[string]func(p *ledger.Parts){
		"Now 0":     func(p *ledger.Parts) { p.Now = 0 },
		"Now 2^61":  func(p *ledger.Parts) { p.Now = maxNow },
		"no plans":  func(p *ledger.Parts) { p.Plans = nil },
		"16 events": func(p *ledger.Parts) { p.Past = make([]ledger.Past, 16) },
		"no more":   func(p *ledger.Parts) { p.Past, p.Rhythms, p.Plans = nil, nil, nil },
	} {
		p := begin(t, some).Parts()
		bend(&p)
		l, err := ledger.Make(p)
		if err != api.OK || l.Now() != p.Now || len(l.Past()) != len(p.Past) || len(l.Parts().Plans) != len(p.Plans) {
			t.Errorf("%s: %d", what, err)
		}
	}
}

// Parts that don't fit each other make a ledger that panics at nothing.
func TestP23_1_PartsThatDontFit(t *testing.T) {
	for _, odd := range []func(p *ledger.Parts){
		func(p *ledger.Parts) { p.Tree = tree.New() },
		func(p *ledger.Parts) { p.Purse = period.New() },
		func(p *ledger.Parts) {
			p.Tree, p.Purse, p.Sheet, p.Table = &tree.Tree{}, &period.Purse{}, &usage.Sheet{}, &credit.Table{}
		},
		func(p *ledger.Parts) { p.Sheet = usage.New() },
		func(p *ledger.Parts) { p.Plans = p.Plans[1:] },
		func(p *ledger.Parts) { p.Table, _ = credit.New(1) },
		func(p *ledger.Parts) { p.Config.Places = 1 },
		func(p *ledger.Parts) { p.Rhythms = map[int]rhythm.Rhythm{3: {Quarters: [4]int{-5, -5, -5, -5}}} },
		func(p *ledger.Parts) {
			p.Past = []ledger.Past{{Number: 1, Node: 77, Period: 99, Cost: -5, Lines: []api.Line{{Tier: 9, Blocks: -9, Price: -9}}}, {Number: 2, Node: 3, Cost: 5}}
		},
	} {
		l := begin(t, some)
		opens(t, l, 1, 1, 10)
		opens(t, l, 2, 2, 10)
		does(t, l, request{Kind: wire.Event, Number: 1, Node: 3, Group: 1, Units: 3})
		p := l.Parts()
		odd(&p)
		l, err := ledger.Make(p)
		if err != api.OK {
			t.Fatal(err)
		}
		for _, r := range []request{
			{Kind: wire.Update, Session: 1, Number: 1, Items: []item{{Group: 1, Used: 5, Want: 5}, {Group: 3, Want: 5}}},
			{Kind: wire.Initial, Session: 3, Node: 3, Items: []item{{Group: 1, Want: 5}, {Group: 3, Want: 5}}},
			{Kind: wire.Initial, Session: 4, Node: 4, Items: []item{{Group: 2, Want: 5}, {Group: 3, Want: 5}}},
			{Kind: wire.Event, Number: 3, Node: 3, Group: 1, Units: 5},
			{Kind: wire.Refund, Of: 1}, {Kind: wire.Refund, Of: 2}, {Kind: wire.Refund, Of: 3},
			{Kind: wire.Balance, Node: 3}, {Kind: wire.Bill, Node: 3}, {Kind: wire.Roll}, {Kind: wire.Bill, Node: 3},
			{Kind: wire.Shut, Node: 3}, {Kind: wire.Move, Node: 4, Parent: 2}, {Kind: wire.Price, Plan: flat(1, 1)},
			{Kind: wire.Terminate, Session: 2, Number: 1, Items: []item{{Group: 2, Used: 5}}},
			{Kind: wire.Terminate, Session: 1, Number: 1, Items: []item{{Group: 1, Used: 5}}},
		} {
			if a := l.Do(r); a.Kind != r.Kind {
				t.Errorf("%+v: %+v", r, a)
			}
		}
		ticks(t, l, 10)
	}
}

// A grant whose group has no plan can't be used: what is held for it is released.
func TestP23_1_AGrantWithoutAPlan(t *testing.T) {
	l := begin(t, some)
	opens(t, l, 1, 1, 10)
	p := l.Parts()
	p.Plans = p.Plans[1:]
	l, err := ledger.Make(p)
	if err != api.OK {
		t.Fatal(err)
	}
	if a := does(t, l, request{Kind: wire.Terminate, Session: 1, Number: 1, Items: []item{{Group: 1, Used: 4}}}); a.Cost != 0 || l.Sheet().Len() != 0 {
		t.Errorf("%+v", a)
	}
	sound(t, "without a plan", l)
}

// Where parts don't fit each other, what is refused changes nothing all the same.
func TestP23_1_RefusedByOtherParts(t *testing.T) {
	l := begin(t, some)
	opens(t, l, 1, 1, 10)
	does(t, l, request{Kind: wire.Event, Number: 1, Node: 3, Group: 1, Units: 3})
	p := l.Parts()
	p.Table, _ = credit.New(1)
	p.Table.Add(credit.Session{Id: 1, Node: 3, Deadline: 9})
	p.Past[0].Cost = maxAmount
	p.Past = append(p.Past, ledger.Past{Number: 2, Node: 3, Group: 1, Lines: []api.Line{{Tier: 0, Blocks: 4, Price: 3}}}, ledger.Past{Number: 3, Node: 9})
	l, err := ledger.Make(p)
	if err != api.OK {
		t.Fatal(err)
	}
	refuses(t, "a table of fewer places", l, request{Kind: wire.Initial, Session: 2, Node: 3, Items: []item{{Group: 1, Want: 1}}}, api.ErrFull)
	refuses(t, "a greater cost", l, request{Kind: wire.Refund, Of: 1}, api.ErrFalse)
	refuses(t, "more blocks", l, request{Kind: wire.Refund, Of: 2}, api.ErrFalse)
	refuses(t, "no node", l, request{Kind: wire.Refund, Of: 3}, api.ErrMiss)
}

func TestP23_1_NoLedger(t *testing.T) {
	for _, l := range []*ledger.Ledger{nil, {}} {
		for kind := 1; kind <= 14; kind++ {
			if a := l.Do(request{Kind: kind, Node: 1, Session: 1}); !reflect.DeepEqual(a, answer{Kind: kind, Err: api.ErrArg}) {
				t.Errorf("kind %d: %+v", kind, a)
			}
		}
		if a := l.Do(request{Kind: 15}); a.Err != api.ErrArg {
			t.Errorf("%+v", a)
		}
		if over, err := l.Tick(); over != nil || err != api.ErrArg {
			t.Errorf("Tick: %v, %d", over, err)
		}
		if p, ok := l.Plan(1); ok || !reflect.DeepEqual(p, tariff.Plan{}) {
			t.Errorf("Plan: %+v, %t", p, ok)
		}
		if l.Now() != 0 || l.Config() != (ledger.Config{}) || l.Rhythm(3) != (rhythm.Rhythm{}) || len(l.Past()) != 0 {
			t.Errorf("%d, %v, %v, %v", l.Now(), l.Config(), l.Rhythm(3), l.Past())
		}
		if l.Tree() != nil || l.Purse() != nil || l.Sheet() != nil || l.Table() != nil || !reflect.DeepEqual(l.Parts(), ledger.Parts{}) {
			t.Errorf("a ledger that is none has parts: %+v", l.Parts())
		}
	}
}

func TestP23_5_NothingIsKept(t *testing.T) {
	l := begin(t, some)
	plan := tariff.Plan{Day: 9, To: 3, Base: flat(4, 3).Base, Other: flat(4, 4).Base}
	items := []item{{Group: 1, Want: 5}, {Group: 4, Want: 5}, {Group: 77}}
	carry := []int{1, 2, 3, 4, 77}
	does(t, l, request{Kind: wire.Price, Plan: plan})
	a := does(t, l, request{Kind: wire.Initial, Session: 1, Node: 3, Items: items[:2]})
	up := does(t, l, request{Kind: wire.Update, Session: 1, Number: 1, Items: items[:2]})
	does(t, l, request{Kind: wire.Event, Number: 1, Node: 3, Group: 1, Units: 5})
	does(t, l, request{Kind: wire.Roll, Carry: carry[:4]})
	bill := does(t, l, request{Kind: wire.Bill, Node: 3})
	if !slices.Equal(items, []item{{Group: 1, Want: 5}, {Group: 4, Want: 5}, {Group: 77}}) || !slices.Equal(carry, []int{1, 2, 3, 4, 77}) {
		t.Errorf("%v, %v", items, carry)
	}
	before := dump(l)
	clear(items)
	clear(carry)
	clear(plan.Base.Tiers)
	clear(plan.Other.Tiers)
	clear(a.Grants[:cap(a.Grants)])
	clear(up.Grants[:cap(up.Grants)])
	clear(bill.Invoice[:cap(bill.Invoice)])
	if behind := dump(l); behind != before {
		t.Errorf("it was\n%s\nand is\n%s", before, behind)
	}
	again := does(t, l, request{Kind: wire.Bill, Node: 3})
	if x, err := invoice.Read(again.Invoice); x.Total != 15 || err != api.OK {
		t.Errorf("%+v, %d", x, err)
	}
}

func TestP23_5_AnswersAreNew(t *testing.T) {
	l := begin(t, some)
	does(t, l, request{Kind: wire.Price, Plan: tariff.Plan{Day: 9, To: 3, Base: flat(4, 3).Base, Other: flat(4, 4).Base}})
	opens(t, l, 1, 1, 5)
	does(t, l, request{Kind: wire.Event, Number: 1, Node: 3, Group: 1, Units: 5})
	before := dump(l)
	p, _ := l.Plan(4)
	clear(p.Base.Tiers)
	clear(p.Other.Tiers)
	past := l.Past()
	clear(past[0].Lines)
	clear(past[:cap(past)])
	parts := l.Parts()
	other, err := ledger.Make(parts)
	if err != api.OK {
		t.Fatal(err)
	}
	for i := range parts.Plans {
		clear(parts.Plans[i].Base.Tiers)
		clear(parts.Plans[i].Other.Tiers)
	}
	clear(parts.Plans)
	clear(parts.Past[0].Lines)
	clear(parts.Past)
	clear(parts.Rhythms)
	parts.Rhythms[4] = rhythm.Rhythm{Quarters: [4]int{1}}
	for i, x := range []*ledger.Ledger{l, other} {
		if behind := dump(x); behind != before {
			t.Errorf("ledger %d was\n%s\nand is\n%s", i, before, behind)
		}
	}
	other.Do(request{Kind: wire.Price, Plan: flat(7, 1)})
	if _, ok := l.Plan(7); ok {
		t.Errorf("one ledger's plan is another one's")
	}
}
