package journal_test

import (
	"cmp"
	"math"
	"math/rand"
	"reflect"
	"slices"
	"testing"

	"purser/api"
	"purser/entry"
	"purser/journal"
)

const (
	most  = 1 << 53
	bound = 1 << 60
)

type (
	acc = entry.Account
	leg = entry.Leg
)

// two answers an entry that debits one account and credits the other.
func two(debit, credit acc, amount int) entry.Entry {
	l := []leg{on(debit, amount), on(credit, -amount)}
	if debit.Kind > credit.Kind || debit.Kind == credit.Kind && (debit.Node > credit.Node || debit.Node == credit.Node && debit.Group > credit.Group) {
		l[0], l[1] = l[1], l[0]
	}
	return entry.Entry{Kind: entry.Hold, Legs: l}
}

func account(kind, node, group int) acc { return acc{Kind: kind, Node: node, Group: group} }
func on(a acc, amount int) leg          { return leg{Account: a, Amount: amount} }
func funds(node int) acc                { return acc{Kind: entry.Funds, Node: node} }
func held(node int) acc                 { return acc{Kind: entry.Held, Node: node} }

func post(t *testing.T, j *journal.Journal, e entry.Entry) {
	t.Helper()
	n := j.Len()
	if got, err := j.Post(e); got != n || err != api.OK {
		t.Fatalf("Post(%v) behind %d entries: %d, %d", e, n, got, err)
	}
}

// refuses holds that Post answers this error, and that the journal is as it was.
func refuses(t *testing.T, what string, j *journal.Journal, e entry.Entry, want api.Errno) {
	t.Helper()
	before := told(j)
	if got, err := j.Post(e); got != 0 || err != want {
		t.Errorf("%s: Post answers %d, %d, not %d", what, got, err, want)
	}
	if after := told(j); !reflect.DeepEqual(after, before) {
		t.Errorf("%s: what is refused has changed the journal", what)
	}
}

// state is what a journal tells, but for its entries.
type state struct {
	open, length int
	accounts     []acc
	balances     []int
	moved        [][]int
	trials       [][3]int
}

func told(j *journal.Journal) state {
	s := state{open: j.Period(), length: j.Len(), accounts: j.Accounts()}
	for _, a := range s.accounts {
		s.balances = append(s.balances, j.Balance(a))
		var moved []int
		for p := range j.Period() + 1 {
			moved = append(moved, j.Moved(a, p))
		}
		s.moved = append(s.moved, moved)
	}
	for p := -1; p <= j.Period(); p++ {
		debits, credits, err := j.Trial(p)
		s.trials = append(s.trials, [3]int{debits, credits, int(err)})
	}
	return s
}

// model is a journal that reckons all from its list of entries anew.
type model struct {
	entries []entry.Entry
	periods []int
	open    int
}

// sum answers the sum of the amounts that are asked for, by account and period.
func (m *model) sum(take func(a acc, amount, period int) bool) int {
	sum := 0
	for i, e := range m.entries {
		for _, l := range e.Legs {
			if take(l.Account, l.Amount, m.periods[i]) {
				sum += l.Amount
			}
		}
	}
	return sum
}

func (m *model) accounts() []acc {
	var all []acc
	for _, e := range m.entries {
		for _, l := range e.Legs {
			if !slices.Contains(all, l.Account) {
				all = append(all, l.Account)
			}
		}
	}
	slices.SortFunc(all, func(a, b acc) int {
		return cmp.Compare(10000*a.Kind+100*a.Node+a.Group, 10000*b.Kind+100*b.Node+b.Group)
	})
	return all
}

func (m *model) told() state {
	s := state{open: m.open, length: len(m.entries), accounts: m.accounts()}
	for _, a := range s.accounts {
		s.balances = append(s.balances, m.sum(func(b acc, _, _ int) bool { return b == a }))
		var moved []int
		for p := range m.open + 1 {
			moved = append(moved, m.sum(func(b acc, _, q int) bool { return b == a && q == p }))
		}
		s.moved = append(s.moved, moved)
	}
	for p := -1; p <= m.open; p++ {
		debits := m.sum(func(_ acc, n, q int) bool { return n > 0 && (q == p || p == -1) })
		credits := -m.sum(func(_ acc, n, q int) bool { return n < 0 && (q == p || p == -1) })
		s.trials = append(s.trials, [3]int{debits, credits, 0})
	}
	return s
}

// some answers an entry by chance.
func some(r *rand.Rand) entry.Entry {
	path := r.Perm(5)[:1+r.Intn(3)]
	for i := range path {
		path[i] += 1 + 27*r.Intn(2)*(path[i]/4)
	}
	e, err := entry.Make(1+r.Intn(6), 1+r.Intn(100), path, 1+r.Intn(8))
	if err != api.OK {
		panic(err)
	}
	if r.Intn(3) == 0 {
		return entry.Opposite(e)
	}
	return e
}

func TestP8_1_Example(t *testing.T) {
	j := journal.New()
	e, _ := entry.Make(entry.TopUp, 5, []int{1}, 0)
	post(t, j, e)
	if n := j.Balance(funds(1)); n != -5 {
		t.Errorf("Balance of Funds 1: %d", n)
	}
	if debits, credits, err := j.Trial(0); debits != 5 || credits != 5 || err != api.OK {
		t.Errorf("Trial(0) = %d, %d, %d", debits, credits, err)
	}
}

func TestP8_1_AgainstAModel(t *testing.T) {
	for seed := range 12 {
		r := rand.New(rand.NewSource(int64(seed)))
		j, m := journal.New(), &model{}
		for step := range 150 {
			if r.Intn(12) == 0 && m.open < 31 {
				m.open++
				if n, err := j.Close(); n != m.open || err != api.OK {
					t.Fatalf("Close: %d, %d, not %d", n, err, m.open)
				}
			} else {
				e := some(r)
				m.entries = append(m.entries, e)
				m.periods = append(m.periods, m.open)
				post(t, j, e)
			}
			if step%10 != 9 {
				continue
			}
			if got, want := told(j), m.told(); !reflect.DeepEqual(got, want) {
				t.Fatalf("seed %d, step %d: %v, not %v", seed, step, got, want)
			}
			for i, e := range m.entries {
				if got, period, err := j.At(i); !reflect.DeepEqual(got, e) || period != m.periods[i] || err != api.OK {
					t.Fatalf("At(%d): %v, %d, %d, not %v, %d", i, got, period, err, e, m.periods[i])
				}
			}
		}
	}
}

func TestP8_1_NewIsEmpty(t *testing.T) {
	for what, j := range map[string]*journal.Journal{"New": journal.New(), "zero value": new(journal.Journal)} {
		if j.Period() != 0 || j.Len() != 0 || len(j.Accounts()) != 0 || j.Balance(funds(1)) != 0 || j.Moved(funds(1), 0) != 0 {
			t.Errorf("%s: not empty: %v", what, told(j))
		}
		for p := -1; p <= 0; p++ {
			if debits, credits, err := j.Trial(p); debits != 0 || credits != 0 || err != api.OK {
				t.Errorf("%s: Trial(%d): %d, %d, %d", what, p, debits, credits, err)
			}
		}
		if e, p, err := j.At(0); e.Kind != 0 || e.Legs != nil || p != 0 || err != api.ErrMiss {
			t.Errorf("%s: At(0): %v, %d, %d", what, e, p, err)
		}
		if n, err := j.Close(); n != 1 || err != api.OK {
			t.Errorf("%s: Close: %d, %d", what, n, err)
		}
		post(t, j, two(funds(1), held(1), 3))
	}
}

func TestP8_1_Nil(t *testing.T) {
	var j *journal.Journal
	right := two(funds(1), held(1), 3)
	for _, e := range []entry.Entry{right, {}} {
		if n, err := j.Post(e); n != 0 || err != api.ErrArg {
			t.Errorf("Post: %d, %d", n, err)
		}
	}
	if n, err := j.Close(); n != 0 || err != api.ErrArg {
		t.Errorf("Close: %d, %d", n, err)
	}
	if j.Period() != 0 || j.Len() != 0 || len(j.Accounts()) != 0 {
		t.Errorf("%d, %d, %v", j.Period(), j.Len(), j.Accounts())
	}
	for _, i := range []int{-2, -1, 0, 1, math.MinInt, math.MaxInt} {
		if e, p, err := j.At(i); e.Kind != 0 || e.Legs != nil || p != 0 || err != api.ErrArg {
			t.Errorf("At(%d): %v, %d, %d", i, e, p, err)
		}
		if n := j.Moved(funds(1), i); n != 0 {
			t.Errorf("Moved(%d): %d", i, n)
		}
		if debits, credits, err := j.Trial(i); debits != 0 || credits != 0 || err != api.ErrArg {
			t.Errorf("Trial(%d): %d, %d, %d", i, debits, credits, err)
		}
	}
	if n := j.Balance(funds(1)); n != 0 {
		t.Errorf("Balance: %d", n)
	}
}

func TestP8_1_PostChecks(t *testing.T) {
	j := journal.New()
	post(t, j, two(funds(1), held(1), 3))
	cash := acc{Kind: entry.Cash}
	refuses(t, "nothing", j, entry.Entry{}, api.ErrKind)
	refuses(t, "kind", j, entry.Entry{Kind: 7, Legs: two(cash, funds(1), 1).Legs}, api.ErrKind)
	refuses(t, "no legs", j, entry.Entry{Kind: 1, Legs: nil}, api.ErrArg)
	refuses(t, "one leg", j, entry.Entry{Kind: 1, Legs: []leg{on(cash, 1)}}, api.ErrArg)
	refuses(t, "65 legs", j, entry.Entry{Kind: 1, Legs: make([]leg, 65)}, api.ErrArg)
	refuses(t, "account", j, two(cash, funds(33), 1), api.ErrArg)
	refuses(t, "amount", j, two(cash, funds(1), most+1), api.ErrBig)
	refuses(t, "amount 0", j, two(cash, funds(1), 0), api.ErrBig)
	refuses(t, "order", j, entry.Entry{Kind: 1, Legs: []leg{on(held(1), 1), on(funds(1), -1)}}, api.ErrOrder)
	refuses(t, "sum", j, entry.Entry{Kind: 1, Legs: []leg{on(cash, 1), on(funds(1), -2)}}, api.ErrFalse)
}

func TestP8_1_GreatestBalance(t *testing.T) {
	for _, up := range []bool{true, false} {
		turn := func(e entry.Entry) entry.Entry {
			if up {
				return e
			}
			return entry.Opposite(e)
		}
		sign := map[bool]int{true: 1, false: -1}[up]
		j := journal.New()
		// What counts is the balance over all periods, not what was moved in one.
		for i := range 127 {
			if i == 50 || i == 90 {
				j.Close()
			}
			post(t, j, turn(two(funds(1), held(1), most)))
		}
		post(t, j, turn(two(funds(1), held(1), most-1)))
		refuses(t, "2 more", j, turn(two(funds(1), held(2), 2)), api.ErrOver)
		refuses(t, "2 more on the other", j, turn(two(funds(2), held(1), 2)), api.ErrOver)
		post(t, j, turn(two(funds(1), held(2), 1)))
		if n := j.Balance(funds(1)); n != sign*bound {
			t.Errorf("Balance of Funds 1: %d", n)
		}
		refuses(t, "1 more", j, turn(two(funds(1), held(2), 1)), api.ErrOver)
		refuses(t, "the last leg is too great", j, turn(two(funds(2), held(1), 2)), api.ErrOver)
		refuses(t, "a middle leg is too great", j, turn(entry.Entry{Kind: 1, Legs: []leg{on(acc{Kind: entry.Cash}, -3), on(funds(1), 1), on(funds(2), 2)}}), api.ErrOver)
		post(t, j, turn(two(funds(2), held(1), 1)))
		refuses(t, "as much as may be", j, turn(two(funds(1), held(1), most)), api.ErrOver)
		// Backwards there is room.
		post(t, j, turn(two(held(1), funds(1), most)))
		post(t, j, turn(two(funds(1), held(1), most)))
		refuses(t, "and again 1 more", j, turn(two(funds(1), held(3), 1)), api.ErrOver)
		if n := j.Balance(held(1)); n != -sign*bound {
			t.Errorf("Balance of Held 1: %d", n)
		}
	}
}

func TestP8_1_Full(t *testing.T) {
	j := journal.New()
	e := two(funds(1), held(1), 1)
	for i := range 16383 {
		if i%600 == 599 {
			j.Close()
		}
		if n, err := j.Post(e); n != i || err != api.OK {
			t.Fatalf("Post of entry %d: %d, %d", i, n, err)
		}
	}
	if n, err := j.Post(two(funds(2), held(1), 5)); n != 16383 || err != api.OK {
		t.Fatalf("the last Post: %d, %d", n, err)
	}
	refuses(t, "one more", j, e, api.ErrFull)
	refuses(t, "one that is none", j, entry.Entry{}, api.ErrKind)
	refuses(t, "one of a sum", j, entry.Entry{Kind: 1, Legs: []leg{on(acc{Kind: entry.Cash}, 1), on(funds(1), -2)}}, api.ErrFalse)
	j.Close()
	refuses(t, "one in the next period", j, e, api.ErrFull)
	if j.Len() != 16384 || j.Balance(funds(1)) != 16383 || j.Balance(held(1)) != -16388 {
		t.Errorf("%d entries, balances %d, %d", j.Len(), j.Balance(funds(1)), j.Balance(held(1)))
	}
	if got, p, err := j.At(16383); got.Legs[0] != (on(funds(2), 5)) || p != 27 || err != api.OK {
		t.Errorf("At(16383): %v, %d, %d", got, p, err)
	}
	if got, p, err := j.At(16384); got.Kind != 0 || got.Legs != nil || p != 0 || err != api.ErrMiss {
		t.Errorf("At(16384): %v, %d, %d", got, p, err)
	}
}

func TestP8_1_FullAheadOfOver(t *testing.T) {
	j := journal.New()
	for range 128 {
		post(t, j, two(funds(1), held(1), most))
	}
	over := two(funds(1), held(1), 1)
	for j.Len() < 16384 {
		post(t, j, two(funds(2), held(2), 1))
		if j.Len() == 16383 {
			refuses(t, "with room for one", j, over, api.ErrOver)
		}
	}
	refuses(t, "without room", j, over, api.ErrFull)
}

func TestP8_1_Periods(t *testing.T) {
	j := journal.New()
	for p := 1; p <= 31; p++ {
		post(t, j, two(funds(1), held(1), p))
		if n, err := j.Close(); n != p || err != api.OK || j.Period() != p {
			t.Fatalf("Close: %d, %d, not %d", n, err, p)
		}
	}
	for range 3 {
		if n, err := j.Close(); n != 0 || err != api.ErrFull || j.Period() != 31 {
			t.Fatalf("Close of the last period: %d, %d", n, err)
		}
	}
	post(t, j, two(funds(1), held(1), 32))
	for p := range 32 {
		if n := j.Moved(funds(1), p); n != p+1 {
			t.Errorf("Moved in %d: %d", p, n)
		}
		if debits, credits, err := j.Trial(p); debits != p+1 || credits != p+1 || err != api.OK {
			t.Errorf("Trial(%d): %d, %d, %d", p, debits, credits, err)
		}
		if e, period, err := j.At(p); e.Legs[0].Amount != p+1 || period != p || err != api.OK {
			t.Errorf("At(%d): %v, %d, %d", p, e, period, err)
		}
	}
	if debits, credits, err := j.Trial(-1); debits != 528 || credits != 528 || err != api.OK {
		t.Errorf("Trial(-1): %d, %d, %d", debits, credits, err)
	}
	for _, p := range []int{-2, 32, 33, math.MinInt, math.MaxInt} {
		if debits, credits, err := j.Trial(p); debits != 0 || credits != 0 || err != api.ErrMiss {
			t.Errorf("Trial(%d): %d, %d, %d", p, debits, credits, err)
		}
	}
	for _, p := range []int{-2, -1, 32, 33, 1 << 32, math.MinInt, math.MaxInt} {
		if n := j.Moved(funds(1), p); n != 0 {
			t.Errorf("Moved in %d: %d", p, n)
		}
	}
}

func TestP8_1_TrialUpToTheOpenPeriod(t *testing.T) {
	j := journal.New()
	j.Close()
	post(t, j, two(funds(1), held(1), 4))
	j.Close()
	for p, want := range []int{0, 4, 0} {
		if debits, credits, err := j.Trial(p); debits != want || credits != want || err != api.OK {
			t.Errorf("Trial(%d): %d, %d, %d", p, debits, credits, err)
		}
	}
	for _, p := range []int{3, 4, 31, 32, -2} {
		if debits, credits, err := j.Trial(p); debits != 0 || credits != 0 || err != api.ErrMiss {
			t.Errorf("Trial(%d): %d, %d, %d", p, debits, credits, err)
		}
	}
}

// great answers an entry of 32 debits and 32 credits, and the sum of its debits: as many as may be, less so much.
func great(less int) (entry.Entry, int) {
	e := entry.Entry{Kind: entry.Hold}
	for node := 1; node <= 32; node++ {
		e.Legs = append(e.Legs, on(funds(node), most))
	}
	for node := 1; node <= 32; node++ {
		e.Legs = append(e.Legs, on(held(node), -most))
	}
	e.Legs[31].Amount -= less
	e.Legs[63].Amount += less
	return e, 32*most - less
}

func TestP8_1_TrialOver(t *testing.T) {
	j := journal.New()
	whole, sum := great(0)
	last, _ := great(1)
	// Turned and turned back, no balance grows, but the debits do.
	for i := range 31 {
		if i%2 == 1 {
			post(t, j, entry.Opposite(whole))
		} else {
			post(t, j, whole)
		}
	}
	post(t, j, entry.Opposite(last))
	for _, p := range []int{0, -1} {
		if debits, credits, err := j.Trial(p); debits != math.MaxInt || credits != math.MaxInt || err != api.OK {
			t.Errorf("Trial(%d) = %d, %d, %d of the greatest int", p, debits, credits, err)
		}
	}
	if sum*32-1 != math.MaxInt {
		t.Fatalf("the entries don't come to the greatest int")
	}
	j.Close()
	post(t, j, two(funds(1), held(1), 1))
	if debits, credits, err := j.Trial(-1); debits != 0 || credits != 0 || err != api.ErrOver {
		t.Errorf("Trial(-1) = %d, %d, %d", debits, credits, err)
	}
	for p, want := range []int{math.MaxInt, 1} {
		if debits, credits, err := j.Trial(p); debits != want || credits != want || err != api.OK {
			t.Errorf("Trial(%d) = %d, %d, %d", p, debits, credits, err)
		}
	}
	for range 40 {
		post(t, j, whole)
		post(t, j, entry.Opposite(whole))
	}
	for p, want := range []api.Errno{api.OK, api.ErrOver} {
		if debits, credits, err := j.Trial(p); err != want || want != api.OK && (debits != 0 || credits != 0) {
			t.Errorf("Trial(%d) = %d, %d, %d", p, debits, credits, err)
		}
	}
	if _, _, err := j.Trial(2); err != api.ErrMiss {
		t.Errorf("Trial of no period, where all are too great: %d", err)
	}
}

func TestP8_1_At(t *testing.T) {
	j := journal.New()
	post(t, j, two(funds(1), held(1), 4))
	j.Close()
	j.Close()
	post(t, j, two(funds(1), held(1), 5))
	for i, want := range []int{0, 2} {
		if e, p, err := j.At(i); e.Legs[0].Amount != 4+i || p != want || err != api.OK {
			t.Errorf("At(%d): %v, %d, %d", i, e, p, err)
		}
	}
	for _, i := range []int{-1, 2, 3, math.MinInt, math.MaxInt} {
		if e, p, err := j.At(i); e.Kind != 0 || e.Legs != nil || p != 0 || err != api.ErrMiss {
			t.Errorf("At(%d): %v, %d, %d", i, e, p, err)
		}
	}
}

func TestP8_1_Accounts(t *testing.T) {
	j := journal.New()
	usage := func(node, group int) acc { return account(entry.Usage, node, group) }
	want := []acc{{Kind: entry.Cash}, funds(1), funds(2), funds(32), held(1), held(32), usage(1, 1), usage(1, 8), usage(2, 1), usage(32, 8),
		{Kind: entry.Expired, Node: 1}, {Kind: entry.Expired, Node: 2}}
	for _, i := range []int{11, 3, 8, 5, 1, 10, 7} {
		post(t, j, two(want[i], want[0], 1))
	}
	j.Close()
	for _, i := range []int{9, 4, 2, 6} {
		post(t, j, two(want[i], want[0], 1))
	}
	if got := j.Accounts(); !slices.Equal(got, want) {
		t.Errorf("Accounts: %v, not %v", got, want)
	}
	// An amount stands on an account, also where its balance is nought again.
	post(t, j, two(want[0], want[1], 1))
	if got := j.Accounts(); j.Balance(want[1]) != 0 || !slices.Equal(got, want) {
		t.Errorf("Accounts: %v, not %v", got, want)
	}
	for _, a := range []acc{{}, account(1, 1, 0), account(2, 3, 0), account(2, 0, 0), account(2, 1, 1), account(9, 9, 9), account(math.MinInt, math.MaxInt, -1)} {
		if j.Balance(a) != 0 || j.Moved(a, 0) != 0 {
			t.Errorf("of %v: %d, %d", a, j.Balance(a), j.Moved(a, 0))
		}
	}
}

func TestP8_2_AllComesToNought(t *testing.T) {
	r := rand.New(rand.NewSource(82))
	j := journal.New()
	for range 2000 {
		e := some(r)
		for i := range e.Legs {
			e.Legs[i].Amount *= most / 400
		}
		j.Post(e)
		if r.Intn(70) == 0 {
			j.Close()
		}
	}
	if j.Len() < 500 || j.Period() < 10 {
		t.Fatalf("%d entries, period %d", j.Len(), j.Period())
	}
	sum := 0
	for _, a := range j.Accounts() {
		balance, moved := j.Balance(a), 0
		for p := range j.Period() + 1 {
			moved += j.Moved(a, p)
		}
		if moved != balance || balance > bound || balance < -bound {
			t.Errorf("%v: balance %d, moved %d", a, balance, moved)
		}
		sum += balance
	}
	if sum != 0 {
		t.Errorf("all balances come to %d", sum)
	}
	all := 0
	for p := range j.Period() + 1 {
		debits, credits, err := j.Trial(p)
		if debits != credits || err != api.OK {
			t.Errorf("Trial(%d): %d, %d, %d", p, debits, credits, err)
		}
		all += debits
	}
	if debits, credits, err := j.Trial(-1); debits != all || credits != all || err != api.OK {
		t.Errorf("Trial(-1): %d, %d, %d, not %d", debits, credits, err, all)
	}
}

func TestP8_3_NothingIsChangedOrKept(t *testing.T) {
	j := journal.New()
	right := two(funds(1), held(1), 3)
	all := append(slices.Clone(right.Legs), on(account(7, 7, 7), 7), on(account(8, 8, 8), 8))
	before := slices.Clone(all)
	e := entry.Entry{Kind: right.Kind, Legs: all[:2]}
	post(t, j, e)
	post(t, j, e)
	if !slices.Equal(all, before) {
		t.Errorf("Post left of the legs %v", all)
	}
	want := told(j)
	clear(all)
	for i := range 2 {
		one, _, _ := j.At(i)
		two, _, _ := j.At(i)
		if !reflect.DeepEqual(one, right) {
			t.Errorf("At(%d): %v", i, one)
		}
		_ = append(one.Legs, on(account(9, 9, 9), 9))
		clear(one.Legs)
		if !reflect.DeepEqual(two, right) {
			t.Errorf("At(%d) is %v now", i, two)
		}
	}
	one, two := j.Accounts(), j.Accounts()
	clear(one)
	if !slices.Equal(two, []acc{funds(1), held(1)}) {
		t.Errorf("Accounts are %v now", two)
	}
	if got := told(j); !reflect.DeepEqual(got, want) {
		t.Errorf("the journal tells %v, not %v", got, want)
	}
}
