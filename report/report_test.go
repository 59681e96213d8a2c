package report_test

import (
	"fmt"
	"math"
	"math/rand"
	"strings"
	"testing"

	"purser/api"
	"purser/credit"
	"purser/entry"
	"purser/ledger"
	"purser/period"
	"purser/report"
	"purser/rhythm"
	"purser/tree"
	"purser/usage"
	"purser/wire"
)

func TestP29_1_NoLedger(t *testing.T) {
	for what, l := range map[string]*ledger.Ledger{"nil": nil, "one that wasn't made": new(ledger.Ledger)} {
		for _, n := range []int{math.MinInt, -1, 0, 1, math.MaxInt} {
			if got := report.Trial(l, n) + report.Tree(l) + report.Day(l, n) + report.Shares(l, n, n); got != "" {
				t.Errorf("%s, %d: %q", what, n, got)
			}
		}
	}
}

func TestP29_1_NewLedger(t *testing.T) {
	l := made(t)
	tellsTrial(t, l, 0, "debits 0 credits 0\n")
	tellsTrial(t, l, -1, "debits 0 credits 0\n")
	tellsTree(t, l, "")
	tellsDay(t, l, 1, "no quarter of 0 blocks\n")
	tellsShares(t, l, 1, 5, "no shares\n")
	agrees(t, l)
}

// Parts that weren't made by New are empty ones, and a purse of none has no journal.
func TestP29_1_PartsOfNoNew(t *testing.T) {
	l := with(t, made(t), func(p *ledger.Parts) {
		p.Tree, p.Purse, p.Sheet, p.Table = new(tree.Tree), new(period.Purse), new(usage.Sheet), new(credit.Table)
	})
	if got := report.Trial(l, 0) + report.Tree(l) + report.Day(l, 1) + report.Shares(l, 1, 1); got != "no trial\nno quarter of 0 blocks\nno shares\n" {
		t.Errorf("%q", got)
	}
}

// laid answers a ledger of two organizations, whose nodes' Ids are in no order, each with 1000.
func laid(t *testing.T) *ledger.Ledger {
	t.Helper()
	l := made(t)
	does(t, l,
		create(20, 0, api.Org, -1), create(5, 0, api.Org, 900),
		create(30, 5, api.Team, 0), create(2, 20, api.Team, -1), create(7, 5, api.Team, -1),
		create(12, 7, api.Project, api.MaxAmount), create(1, 7, api.Project, -1), create(31, 30, api.Project, -1), create(9, 2, api.Project, 500), create(4, 7, api.Project, -1),
		flat(1, 3), flat(2, 0), flat(8, 5),
	)
	for _, id := range []int{20, 5, 30, 2, 7, 12, 1, 31, 9, 4} {
		does(t, l, topUp(id, 1000))
	}
	return l
}

func TestP29_1_TrialOfEachAccount(t *testing.T) {
	l := laid(t)
	does(t, l,
		event(1, 9, 8, 7), event(2, 9, 1, 4), event(3, 12, 1, 2),
		request{Kind: wire.Initial, Session: 1, Node: 9, Items: []item{{Group: 1, Want: 10}}},
	)
	tellsTrial(t, l, 0, `cash: 10000
funds 1: -1000
funds 2: -923
funds 4: -1000
funds 5: -994
funds 7: -994
funds 9: -923
funds 12: -994
funds 20: -923
funds 30: -1000
funds 31: -1000
held 2: -30
held 9: -30
held 20: -30
usage 2 group 1: -12
usage 2 group 8: -35
usage 5 group 1: -6
usage 7 group 1: -6
usage 9 group 1: -12
usage 9 group 8: -35
usage 12 group 1: -6
usage 20 group 1: -12
usage 20 group 8: -35
debits 10408 credits 10408
`)
	does(t, l, request{Kind: wire.Refund, Number: 4, Of: 3})
	does(t, l, request{Kind: wire.Roll, Carry: []int{5, 30, 2, 7, 12, 1, 31, 9}})
	got := report.Trial(l, 0)
	for _, line := range []string{"cash: 10000\n", "funds 12: -1000\n", "expired 4: -1000\n", "expired 20: -923\n", "usage 9 group 8: -35\n"} {
		if !strings.Contains(got, line) {
			t.Errorf("%q isn't among\n%s", line, got)
		}
	}
	// What was topped up and expired, and what was paid and refunded, comes to nought.
	for _, name := range []string{"funds 4:", "funds 20:", "usage 12 ", "usage 7 ", "usage 5 "} {
		if strings.Contains(got, name) {
			t.Errorf("%q is among\n%s", name, got)
		}
	}
	does(t, l, topUp(31, 8), request{Kind: wire.Terminate, Session: 1, Number: 1, Items: []item{{Group: 1, Used: 2}}})
	tellsTrial(t, l, 1, `cash: 8
funds 2: -24
funds 9: -24
funds 20: -24
funds 31: -8
held 2: 30
held 9: 30
held 20: 30
usage 2 group 1: -6
usage 9 group 1: -6
usage 20 group 1: -6
debits 98 credits 98
`)
	agrees(t, l)
}

// What is moved there and back in a period is no line, but its debits and credits are counted.
func TestP29_1_TrialOfAmountsThatComeToNought(t *testing.T) {
	l := laid(t)
	does(t, l, request{Kind: wire.Roll, Carry: l.Tree().Ids()})
	does(t, l,
		request{Kind: wire.Initial, Session: 1, Node: 9, Items: []item{{Group: 1, Want: 10}}},
		request{Kind: wire.Terminate, Session: 1, Number: 1},
	)
	tellsTrial(t, l, 1, "debits 180 credits 180\n")
	does(t, l, event(1, 9, 1, 2), request{Kind: wire.Refund, Number: 2, Of: 1})
	tellsTrial(t, l, 1, "debits 234 credits 234\n")
	// The amounts of another period don't bring an account back to nought.
	does(t, l, event(3, 9, 1, 2))
	does(t, l, request{Kind: wire.Roll})
	tellsTrial(t, l, 2, "debits 0 credits 0\n")
	if got := report.Trial(l, 1); !strings.Contains(got, "usage 9 group 1: -6\n") || !strings.Contains(got, "expired 9: -994\n") || !strings.Contains(got, "\nfunds 9: 1000\n") {
		t.Errorf("%s", got)
	}
	agrees(t, l)
}

func TestP29_1_PeriodsOfATrial(t *testing.T) {
	l := laid(t)
	does(t, l, request{Kind: wire.Roll}, request{Kind: wire.Roll}, topUp(9, 5))
	// Nothing was moved in period 1.
	tellsTrial(t, l, 1, "debits 0 credits 0\n")
	tellsTrial(t, l, 2, "cash: 5\nfunds 9: -5\ndebits 5 credits 5\n")
	for _, period := range []int{3, 4, 31, 32, 33, -2, -3, math.MinInt, math.MaxInt} {
		tellsTrial(t, l, period, "no trial\n")
	}
	// -1 is no period, in which something was moved, but the journal has a trial of all.
	tellsTrial(t, l, -1, "debits 20005 credits 20005\n")
}

// Of sums that are no ints there is no trial; what each account was moved is told all the same.
func TestP29_1_NoTrial(t *testing.T) {
	l := made(t)
	fill := func(rounds int) {
		for range rounds {
			var legs []entry.Leg
			for node := 1; node <= api.MaxNodes; node++ {
				legs = append(legs, entry.Leg{Account: entry.Account{Kind: entry.Funds, Node: node}, Amount: -api.MaxAmount})
			}
			for node := 1; node <= api.MaxNodes; node++ {
				legs = append(legs, entry.Leg{Account: entry.Account{Kind: entry.Held, Node: node}, Amount: api.MaxAmount})
			}
			e := entry.Entry{Kind: entry.Hold, Legs: legs}
			for _, x := range []entry.Entry{e, entry.Opposite(e)} {
				if _, err := l.Purse().Journal().Post(x); err != api.OK {
					t.Fatalf("Post: %d", err)
				}
			}
		}
	}
	// Each round has 64 debits of 2^53: behind 15 and a half of them the sum is no int.
	fill(15)
	does(t, l, create(3, 0, api.Org, -1), topUp(3, 4))
	if got := report.Trial(l, 0); got != fmt.Sprintf("cash: 4\nfunds 3: -4\ndebits %d credits %d\n", 15<<59+4, 15<<59+4) {
		t.Errorf("%s", got)
	}
	fill(1)
	if got := report.Trial(l, 0); got != "cash: 4\nfunds 3: -4\nno trial\n" {
		t.Errorf("%s", got)
	}
	if got := report.Trial(l, -1); got != "no trial\n" {
		t.Errorf("%s", got)
	}
}

func TestP29_1_TreeOfSeveral(t *testing.T) {
	l := laid(t)
	does(t, l,
		event(1, 9, 1, 10), event(2, 9, 8, 3),
		request{Kind: wire.Initial, Session: 1, Node: 4, Items: []item{{Group: 1, Want: 20}}},
		request{Kind: wire.Shut, Node: 31}, request{Kind: wire.Shut, Node: 30}, request{Kind: wire.Shut, Node: 1},
		request{Kind: wire.Limit, Node: 4, Limit: 77},
		create(32, 0, api.Org, 0), create(3, 32, api.Team, -1), create(11, 0, api.Org, -1),
	)
	tellsTree(t, l, `org 5: available 940 held 60 used 0 limit 900
  team 7: available 940 held 60 used 0
    project 1 closed: available 1000 held 0 used 0
    project 4: available 940 held 60 used 0 limit 77
    project 12: available 1000 held 0 used 0 limit 9007199254740992
  team 30 closed: available 1000 held 0 used 0 limit 0
    project 31 closed: available 1000 held 0 used 0
org 11: available 0 held 0 used 0
org 20: available 955 held 0 used 45
  team 2: available 955 held 0 used 45
    project 9: available 955 held 0 used 45 limit 500
org 32: available 0 held 0 used 0 limit 0
  team 3: available 0 held 0 used 0
`)
	does(t, l, request{Kind: wire.Move, Node: 12, Parent: 3}, request{Kind: wire.Roll, Carry: []int{9}})
	tellsTree(t, l, `org 5: available 0 held 60 used 0 limit 900
  team 7: available 0 held 60 used 0
    project 1 closed: available 0 held 0 used 0
    project 4: available 0 held 60 used 0 limit 77
  team 30 closed: available 0 held 0 used 0 limit 0
    project 31 closed: available 0 held 0 used 0
org 11: available 0 held 0 used 0
org 20: available 0 held 0 used 0
  team 2: available 0 held 0 used 0
    project 9: available 955 held 0 used 0 limit 500
org 32: available 0 held 0 used 0 limit 0
  team 3: available 0 held 0 used 0
    project 12: available 0 held 0 used 0 limit 9007199254740992
`)
	does(t, l, request{Kind: wire.Shut, Node: 11})
	if got := report.Tree(l); !strings.Contains(got, "\norg 11 closed: available 0 held 0 used 0\n") {
		t.Errorf("%s", got)
	}
	agrees(t, l)
}

// All 32 nodes, and the greatest amounts there are.
func TestP29_1_TreeThatIsFull(t *testing.T) {
	l := made(t)
	does(t, l, create(32, 0, api.Org, api.MaxAmount), create(31, 32, api.Team, -1))
	for id := 30; id >= 1; id-- {
		does(t, l, create(id, 31, api.Project, id%3-1))
	}
	for _, id := range []int{32, 31, 1, 17} {
		does(t, l, topUp(id, api.MaxAmount))
	}
	want := "org 32: available 9007199254740992 held 0 used 0 limit 9007199254740992\n  team 31: available 9007199254740992 held 0 used 0\n"
	for id := 1; id <= 30; id++ {
		want += fmt.Sprintf("    project %d: available %d held 0 used 0%s\n", id, map[int]int{1: 1 << 53, 17: 1 << 53}[id], []string{"", " limit 0", " limit 1"}[id%3])
	}
	tellsTree(t, l, want)
	tellsTrial(t, l, 0, "cash: 36028797018963968\nfunds 1: -9007199254740992\nfunds 17: -9007199254740992\nfunds 31: -9007199254740992\nfunds 32: -9007199254740992\ndebits 36028797018963968 credits 36028797018963968\n")
	agrees(t, l)
}

func TestP29_1_Day(t *testing.T) {
	l := laid(t)
	// A day has 8 ticks, so a quarter has two.
	does(t, l, event(1, 9, 2, 4))
	tellsDay(t, l, 9, "quarter 0 of 4 blocks, strength 16\n")
	ticks(t, l, 2)
	does(t, l, event(2, 9, 1, 5), event(3, 12, 2, 6))
	tellsDay(t, l, 9, "quarter 1 of 9 blocks, strength 41\n")
	ticks(t, l, 2)
	does(t, l, event(4, 9, 2, 40))
	tellsDay(t, l, 9, "quarter 2 of 49 blocks, strength 1321\n")
	ticks(t, l, 2)
	does(t, l, event(5, 9, 2, 45), event(6, 12, 2, 6))
	tellsDay(t, l, 9, "quarter 3 of 94 blocks, strength 2896\n")
	// What is told of a quarter and of the one that is opposite points nowhere.
	tellsDay(t, l, 12, "no quarter of 12 blocks\n")
	for _, node := range []int{1, 2, 20, 32, 33, 0, -1, math.MinInt, math.MaxInt} {
		tellsDay(t, l, node, "no quarter of 0 blocks\n")
	}
	agrees(t, l)
	does(t, l, request{Kind: wire.Roll})
	tellsDay(t, l, 9, "no quarter of 0 blocks\n")
}

func TestP29_1_DayOfGreatRhythms(t *testing.T) {
	// 3037000499 is the greatest number whose square is an int.
	const root, most = 3037000499, 1 << 50
	for _, c := range []struct {
		quarters [4]int
		want     string
	}{
		{[4]int{root, 0, 0, 0}, "quarter 0 of 3037000499 blocks, strength 9223372030926249001"},
		{[4]int{0, 0, 0, root}, "quarter 3 of 3037000499 blocks, strength 9223372030926249001"},
		{[4]int{0, root + 1, 0, 0}, "quarter 1 of 3037000500 blocks, strength too great"},
		{[4]int{0, 0, root, 80000}, "quarter 2 of 3037080499 blocks, strength too great"},
		{[4]int{root, 0, 0, 70000}, "quarter 0 of 3037070499 blocks, strength 9223372035826249001"},
		{[4]int{most, most, most, most}, "no quarter of 4503599627370496 blocks"},
		{[4]int{most, most - 1, most, most}, "quarter 3 of 4503599627370495 blocks, strength 1"},
		{[4]int{most, 0, 0, 0}, "quarter 0 of 1125899906842624 blocks, strength too great"},
		{[4]int{most, most, 0, 0}, "quarter 0 of 2251799813685248 blocks, strength too great"},
		{[4]int{0, most, most, 0}, "quarter 2 of 2251799813685248 blocks, strength too great"},
		{[4]int{1, 1, 1, 1}, "no quarter of 4 blocks"},
		{[4]int{0, 5, 0, 5}, "no quarter of 10 blocks"},
		{[4]int{3, 3, 0, 0}, "quarter 0 of 6 blocks, strength 18"},
		{[4]int{3, 0, 0, 3}, "quarter 0 of 6 blocks, strength 18"},
		{[4]int{0, 3, 3, 0}, "quarter 2 of 6 blocks, strength 18"},
		{[4]int{0, 5, 2, 2}, "quarter 1 of 9 blocks, strength 13"},
		// What isn't right points nowhere, and has no blocks.
		{[4]int{-1, 5, 0, 0}, "no quarter of 0 blocks"},
		{[4]int{most + 1, 0, 0, 0}, "no quarter of 0 blocks"},
		{[4]int{math.MinInt, math.MaxInt, 0, 0}, "no quarter of 0 blocks"},
	} {
		l := with(t, laid(t), func(p *ledger.Parts) { p.Rhythms = map[int]rhythm.Rhythm{9: {Quarters: c.quarters}} })
		if got := report.Day(l, 9); got != c.want+"\n" || got != dayOf(l.Rhythm(9)) {
			t.Errorf("%v: %q, not %q", c.quarters, got, c.want)
		}
		if got := report.Day(l, 4); got != "no quarter of 0 blocks\n" {
			t.Errorf("of another node: %q", got)
		}
	}
}

func TestP29_1_Shares(t *testing.T) {
	l := laid(t)
	does(t, l, event(1, 12, 1, 10), event(2, 1, 1, 20), event(3, 9, 8, 6))
	tellsShares(t, l, 7, 90, "project 1: 60\nproject 4: 0\nproject 12: 30\n")
	// What is left over goes to the first ones that used something.
	tellsShares(t, l, 7, 100, "project 1: 67\nproject 4: 0\nproject 12: 33\n")
	tellsShares(t, l, 5, 100, "project 1: 67\nproject 4: 0\nproject 12: 33\nproject 31: 0\n")
	tellsShares(t, l, 5, 2, "project 1: 2\nproject 4: 0\nproject 12: 0\nproject 31: 0\n")
	tellsShares(t, l, 5, 1, "project 1: 1\nproject 4: 0\nproject 12: 0\nproject 31: 0\n")
	tellsShares(t, l, 20, 8, "project 9: 8\n")
	tellsShares(t, l, 12, 7, "project 12: 7\n")
	tellsShares(t, l, 12, math.MaxInt, "project 12: 9223372036854775807\n")
	tellsShares(t, l, 7, math.MaxInt, "project 1: 6148914691236517205\nproject 4: 0\nproject 12: 3074457345618258602\n")
	tellsShares(t, l, 5, 0, "project 1: 0\nproject 4: 0\nproject 12: 0\nproject 31: 0\n")
	for _, cost := range []int{-1, -100, math.MinInt} {
		tellsShares(t, l, 7, cost, "no shares\n")
		tellsShares(t, l, 12, cost, "no shares\n")
	}
	// Projects that used nothing, nodes without projects, nodes that aren't there.
	does(t, l, create(6, 20, api.Team, -1), create(8, 0, api.Org, -1))
	for _, node := range []int{4, 31, 30, 6, 8, 3, 32, 33, 0, -1, math.MinInt, math.MaxInt} {
		for _, cost := range []int{0, 1, 100} {
			tellsShares(t, l, node, cost, "no shares\n")
		}
	}
	// Closed ones are told, too; what is held counts nothing, what cost nothing neither.
	does(t, l,
		request{Kind: wire.Shut, Node: 12}, event(4, 4, 2, 100),
		request{Kind: wire.Initial, Session: 1, Node: 4, Items: []item{{Group: 1, Want: 20}}},
	)
	tellsShares(t, l, 7, 90, "project 1: 60\nproject 4: 0\nproject 12: 30\n")
	does(t, l, request{Kind: wire.Update, Session: 1, Number: 1, Items: []item{{Group: 1, Used: 20}}})
	tellsShares(t, l, 7, 150, "project 1: 60\nproject 4: 60\nproject 12: 30\n")
	does(t, l, request{Kind: wire.Refund, Number: 5, Of: 2})
	tellsShares(t, l, 7, 150, "project 1: 0\nproject 4: 100\nproject 12: 50\n")
	agrees(t, l)
	// The open period alone counts.
	does(t, l, request{Kind: wire.Roll, Carry: l.Tree().Ids()})
	tellsShares(t, l, 7, 150, "no shares\n")
	does(t, l, event(6, 1, 1, 1))
	tellsShares(t, l, 7, 150, "project 1: 150\nproject 4: 0\nproject 12: 0\n")
}

// drawn does a request by chance, that fits the ledger that laid answers more often than not.
func drawn(r *rand.Rand, l *ledger.Ledger, i int) request {
	ids := []int{20, 5, 30, 2, 7, 12, 1, 31, 9, 4, 3, 6, 8, 10, 32}
	node, project := ids[r.Intn(len(ids))], []int{12, 1, 31, 9, 4}[r.Intn(5)]
	switch n := r.Intn(30); {
	case n < 12:
		return event(i, project, []int{1, 2, 8}[r.Intn(3)], 1+r.Intn(40))
	case n < 16:
		return request{Kind: wire.Initial, Session: i, Node: project, Items: []item{{Group: 1, Want: 1 + r.Intn(20)}, {Group: 8, Want: 3}}}
	case n < 20:
		if open := l.Table().Ids(); len(open) > 0 {
			s, _ := l.Table().Get(open[r.Intn(len(open))])
			return request{Kind: wire.Update + r.Intn(2), Session: s.Id, Number: s.Number + 1, Items: []item{{Group: 1, Used: r.Intn(s.Grants[0].Units + 1), Want: 4}}}
		}
		return topUp(node, 1+r.Intn(2000))
	case n < 22:
		return request{Kind: wire.Refund, Of: i - 1 - r.Intn(4)}
	case n < 24:
		return request{Kind: wire.Move, Node: []int{node, project, 3, 6}[r.Intn(4)], Parent: []int{30, 2, 7, 5, 20}[r.Intn(5)]}
	case n < 25:
		return request{Kind: wire.Limit, Node: node, Limit: []int{-1, 0, 400, 3000}[r.Intn(4)]}
	case n < 27:
		return create(node, []int{0, 5, 20, 7, 2}[r.Intn(5)], 1+r.Intn(3), r.Intn(900)-1)
	case n < 28 && i%3 == 0:
		return request{Kind: wire.Shut, Node: node}
	case n < 29 && i%4 == 0:
		return request{Kind: wire.Roll, Carry: ids[:r.Intn(len(ids))]}
	}
	return topUp(node, 1+r.Intn(2000))
}

func TestP29_1_AsTheModelTells(t *testing.T) {
	done := map[int]int{}
	for seed := range int64(12) {
		r := rand.New(rand.NewSource(seed))
		l := laid(t)
		for i := 1; i <= 150; i++ {
			x := drawn(r, l, i)
			if l.Do(x).Err == api.OK {
				done[x.Kind]++
			}
			if r.Intn(3) == 0 {
				ticks(t, l, 1)
			}
			if i%50 == 0 {
				agrees(t, l)
			}
			if t.Failed() {
				t.Fatalf("script %d, step %d: %+v", seed, i, x)
			}
		}
	}
	for kind := wire.Initial; kind <= wire.Roll; kind++ {
		if kind != wire.Price && done[kind] < 5 {
			t.Errorf("kind %d was done %d times", kind, done[kind])
		}
	}
}

// At each step of a script, in each period, the lines' amounts come to nought.
func TestP29_2_LinesComeToNought(t *testing.T) {
	lines := 0
	for seed := range int64(10) {
		r := rand.New(rand.NewSource(100 + seed))
		l := laid(t)
		for i := 1; i <= 120; i++ {
			l.Do(drawn(r, l, i))
			if r.Intn(4) == 0 {
				ticks(t, l, 1)
			}
			for period := range l.Purse().Journal().Period() + 1 {
				trial := report.Trial(l, period)
				comesToNought(t, trial)
				lines += strings.Count(trial, ": ")
			}
		}
	}
	if lines < 10000 {
		t.Errorf("only %d lines", lines)
	}
}
