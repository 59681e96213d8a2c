package funds_test

import (
	"fmt"
	"math"
	"math/rand"
	"slices"
	"testing"

	"purser/api"
	"purser/funds"
)

const most = 1 << 53

type account = funds.Account

// none are limits of so many nodes that have none.
func none(n int) []int { return slices.Repeat([]int{-1}, n) }

// filled answers a book of these accounts: of node 1 on.
func filled(t *testing.T, accounts ...account) *funds.Book {
	t.Helper()
	b := funds.New()
	for i, a := range accounts {
		if err := b.Set(i+1, a); err != api.OK {
			t.Fatalf("Set(%d, %+v): %d", i+1, a, err)
		}
	}
	return b
}

// told answers all that a book tells of its nodes.
func told(b *funds.Book) string {
	all := fmt.Sprintln(b.Nodes())
	for node := -1; node <= 34; node++ {
		all += fmt.Sprintln(node, b.Get(node), b.Available(node))
	}
	return all
}

// refuses holds that a call answers this error, and that the book is as it was.
func refuses(t *testing.T, what string, b *funds.Book, call func() api.Errno, want api.Errno) {
	t.Helper()
	before := told(b)
	if got := call(); got != want {
		t.Errorf("%s: %d, not %d", what, got, want)
	}
	if told(b) != before {
		t.Errorf("%s: what is refused has changed the book", what)
	}
}

// does holds that a call is done, and that the accounts of node 1 on are these.
func does(t *testing.T, what string, b *funds.Book, err api.Errno, want ...account) {
	t.Helper()
	if err != api.OK {
		t.Errorf("%s: %d", what, err)
	}
	for i, a := range want {
		if got := b.Get(i + 1); got != a {
			t.Errorf("%s: node %d has %+v, not %+v", what, i+1, got, a)
		}
	}
}

// paths are none, and what is wrong with them.
var paths = map[string][]int{
	"no node": nil, "4 nodes": {1, 2, 3, 4}, "a node twice": {1, 1}, "a node twice, apart": {1, 2, 1}, "the last one twice": {1, 2, 2},
	"node 0": {0}, "node 33": {33}, "node -1": {1, -1}, "node 33 at last": {1, 2, 33}, "the least node": {math.MinInt}, "the greatest node": {1, math.MaxInt},
}

// amounts are none.
var amounts = []int{0, -1, most + 1, math.MinInt, math.MaxInt}

// rich answers a book whose nodes have so much of all that nothing but an argument can be wrong.
func rich(t *testing.T) *funds.Book {
	t.Helper()
	a := account{Topped: 1000, Carried: 1000, Expired: 100, Used: 300, Held: 400}
	return filled(t, a, a, a, a, a)
}

func TestP14_1_Example(t *testing.T) {
	b := funds.New()
	b.TopUp(1, 9)
	b.TopUp(2, 5)
	path := []int{1, 2}
	if room, err := b.Room(path, none(2)); room != 5 || err != api.OK {
		t.Errorf("Room: %d, %d", room, err)
	}
	refuses(t, "Hold of 6", b, func() api.Errno { return b.Hold(path, none(2), 6) }, api.ErrCredit)
	refuses(t, "Hold of 4 by limits", b, func() api.Errno { return b.Hold(path, []int{3, -1}, 4) }, api.ErrLimit)
	does(t, "Hold of 5", b, b.Hold(path, none(2), 5), account{Topped: 9, Held: 5}, account{Topped: 5, Held: 5})
}

func TestP14_1_NewIsOfNoughts(t *testing.T) {
	for what, b := range map[string]*funds.Book{"New": funds.New(), "zero value": new(funds.Book)} {
		if nodes := b.Nodes(); len(nodes) != 0 {
			t.Errorf("%s: %v", what, nodes)
		}
		for node := range 34 {
			if a, n := b.Get(node), b.Available(node); a != (account{}) || n != 0 {
				t.Errorf("%s: node %d has %+v, %d", what, node, a, n)
			}
		}
		if room, err := b.Room([]int{1, 32}, none(2)); room != 0 || err != api.OK {
			t.Errorf("%s: Room: %d, %d", what, room, err)
		}
		does(t, what, b, b.TopUp(1, 1), account{Topped: 1})
	}
}

func TestP14_1_Nil(t *testing.T) {
	var b *funds.Book
	for _, node := range []int{math.MinInt, -1, 0, 1, 32, 33, math.MaxInt} {
		if a, n := b.Get(node), b.Available(node); a != (account{}) || n != 0 {
			t.Errorf("node %d has %+v, %d", node, a, n)
		}
		if n, err := b.Roll(node, node > 0); n != 0 || err != api.ErrArg {
			t.Errorf("Roll(%d): %d, %d", node, n, err)
		}
		if n, err := b.Room([]int{node}, none(1)); n != 0 || err != api.ErrArg {
			t.Errorf("Room(%d): %d, %d", node, n, err)
		}
		path := []int{node}
		for what, err := range map[string]api.Errno{
			"Set": b.Set(node, account{}), "TopUp": b.TopUp(node, 1), "Hold": b.Hold(path, none(1), 1),
			"Release": b.Release(path, 1), "Commit": b.Commit(path, 1), "Refund": b.Refund(path, 1),
		} {
			if err != api.ErrArg {
				t.Errorf("%s of %d: %d", what, node, err)
			}
		}
	}
	if nodes := b.Nodes(); len(nodes) != 0 {
		t.Errorf("Nodes: %v", nodes)
	}
}

func TestP14_1_SetTakesAccounts(t *testing.T) {
	for _, a := range []account{
		{}, {Topped: 1}, {Topped: most}, {Carried: most}, {Topped: 1, Carried: most - 1}, {Topped: most - 1, Carried: 1},
		{Topped: most, Expired: most}, {Carried: most, Used: most}, {Topped: most, Held: most},
		{Topped: 5, Carried: 4, Expired: 2, Used: 3, Held: 4}, {Topped: most - 9, Carried: 9, Expired: most - 6, Used: 3, Held: 3},
	} {
		for _, node := range []int{1, 2, 31, 32} {
			b := funds.New()
			if err := b.Set(node, a); err != api.OK || b.Get(node) != a {
				t.Errorf("Set(%d, %+v): %d, %+v", node, a, err, b.Get(node))
			}
			if n, want := b.Available(node), a.Topped+a.Carried-a.Expired-a.Used-a.Held; n != want {
				t.Errorf("Set(%d, %+v): %d are available", node, a, n)
			}
			var want []int
			if a != (account{}) {
				want = []int{node}
			}
			if nodes := b.Nodes(); !slices.Equal(nodes, want) {
				t.Errorf("Set(%d, %+v): Nodes: %v", node, a, nodes)
			}
			if err := b.Set(node, account{}); err != api.OK || len(b.Nodes()) != 0 {
				t.Errorf("Set(%d) of noughts: %d, %v", node, err, b.Nodes())
			}
		}
	}
}

func TestP14_1_SetRefuses(t *testing.T) {
	b := rich(t)
	for _, a := range []account{
		{Topped: -1}, {Topped: most + 1}, {Topped: math.MinInt}, {Topped: math.MaxInt},
		{Carried: -1}, {Carried: most + 1}, {Carried: math.MaxInt}, {Topped: 9, Carried: -1}, {Topped: -1, Carried: 9},
		{Topped: most, Carried: 1}, {Topped: 1, Carried: most}, {Topped: most, Carried: most}, {Topped: most, Carried: 1, Used: 1},
		{Expired: 1}, {Used: 1}, {Held: 1}, {Topped: 5, Carried: 4, Expired: 10}, {Topped: 9, Used: 10}, {Carried: 9, Held: 10},
		{Topped: 5, Carried: 4, Expired: 3, Used: 3, Held: 4}, {Topped: most, Expired: most, Used: most, Held: most},
		{Topped: 9, Expired: -1}, {Topped: 9, Used: -1}, {Topped: 9, Held: -1}, {Topped: 9, Used: 10, Held: -1}, {Topped: 9, Expired: -5, Used: 9, Held: 5},
		{Topped: 9, Held: math.MinInt}, {Topped: 9, Used: math.MinInt}, {Topped: 9, Expired: math.MinInt},
		{Topped: 9, Expired: math.MaxInt, Used: math.MaxInt}, {Topped: most, Expired: most + 1}, {Topped: most, Used: most + 1}, {Topped: most, Held: most + 1},
		{Topped: math.MaxInt, Carried: math.MaxInt, Expired: math.MaxInt, Used: math.MaxInt},
	} {
		refuses(t, fmt.Sprint(a), b, func() api.Errno { return b.Set(1, a) }, api.ErrArg)
	}
	for _, node := range []int{math.MinInt, -1, 0, 33, math.MaxInt} {
		refuses(t, fmt.Sprint("node ", node), b, func() api.Errno { return b.Set(node, account{}) }, api.ErrArg)
		refuses(t, fmt.Sprint("node ", node), b, func() api.Errno { return b.Set(node, account{Topped: 1}) }, api.ErrArg)
	}
}

func TestP14_1_Nodes(t *testing.T) {
	b := funds.New()
	for _, node := range []int{32, 7, 1, 20, 7} {
		b.TopUp(node, node)
	}
	b.Set(30, account{Topped: 2, Expired: 2})
	b.Set(31, account{Carried: 2, Held: 2})
	if nodes := b.Nodes(); !slices.Equal(nodes, []int{1, 7, 20, 30, 31, 32}) {
		t.Errorf("Nodes: %v", nodes)
	}
	// What has expired is gone with the period.
	b.Roll(30, true)
	b.Roll(20, false)
	b.Roll(31, false)
	if nodes := b.Nodes(); !slices.Equal(nodes, []int{1, 7, 31, 32}) {
		t.Errorf("Nodes: %v", nodes)
	}
}

func TestP14_1_Room(t *testing.T) {
	b := filled(t,
		account{Topped: 50, Carried: 50, Expired: 10, Used: 20, Held: 30}, // 40
		account{Topped: 60, Used: 5},                                      // 55
		account{Carried: 45},
		account{Topped: most},
		account{Topped: 7, Used: 7},
	)
	for _, c := range []struct {
		path, limits []int
		want         int
	}{
		{[]int{1}, []int{-1}, 40}, {[]int{2}, []int{-1}, 55}, {[]int{4}, []int{-1}, most}, {[]int{5}, []int{-1}, 0}, {[]int{6}, []int{-1}, 0},
		{[]int{1, 2}, none(2), 40}, {[]int{2, 1}, none(2), 40}, {[]int{4, 2, 3}, none(3), 45}, {[]int{4, 3, 2}, none(3), 45}, {[]int{2, 4, 5}, none(3), 0},
		{[]int{1}, []int{91}, 40}, {[]int{1}, []int{90}, 40}, {[]int{1}, []int{89}, 39}, {[]int{1}, []int{51}, 1}, {[]int{1}, []int{50}, 0},
		{[]int{1}, []int{49}, 0}, {[]int{1}, []int{1}, 0}, {[]int{1}, []int{0}, 0}, {[]int{1}, []int{most}, 40},
		{[]int{4}, []int{most}, most}, {[]int{4}, []int{most - 1}, most - 1}, {[]int{4}, []int{0}, 0},
		{[]int{4, 2, 3}, []int{-1, -1, 44}, 44}, {[]int{4, 2, 3}, []int{43, -1, 44}, 43}, {[]int{4, 2, 3}, []int{-1, 47, 44}, 42}, {[]int{4, 2, 3}, []int{-1, 4, 44}, 0},
		{[]int{4, 6}, []int{5, 5}, 0}, {[]int{5}, []int{5}, 0},
	} {
		if room, err := b.Room(c.path, c.limits); room != c.want || err != api.OK {
			t.Errorf("Room(%v, %v): %d, %d, not %d", c.path, c.limits, room, err, c.want)
		}
	}
}

func TestP14_1_WrongPaths(t *testing.T) {
	b := rich(t)
	for what, path := range paths {
		for _, amount := range []int{1, most + 1} {
			refuses(t, what+": Hold", b, func() api.Errno { return b.Hold(path, none(len(path)), amount) }, api.ErrArg)
			refuses(t, what+": Release", b, func() api.Errno { return b.Release(path, amount) }, api.ErrArg)
			refuses(t, what+": Commit", b, func() api.Errno { return b.Commit(path, amount) }, api.ErrArg)
			refuses(t, what+": Refund", b, func() api.Errno { return b.Refund(path, amount) }, api.ErrArg)
		}
		refuses(t, what+": Room", b, func() api.Errno { return room(t, b, path, none(len(path))) }, api.ErrArg)
	}
	for _, path := range [][]int{{1}, {5, 1}, {3, 1, 2}} {
		does(t, "Hold", b, b.Hold(path, none(len(path)), 1))
		does(t, "Release", b, b.Release(path, 1))
		does(t, "Commit", b, b.Commit(path, 1))
		does(t, "Refund", b, b.Refund(path, 1))
	}
}

// room answers a Room's error, and holds that nothing stands beside it.
func room(t *testing.T, b *funds.Book, path, limits []int) api.Errno {
	t.Helper()
	n, err := b.Room(path, limits)
	if err != api.OK && n != 0 {
		t.Errorf("Room(%v, %v): %d, %d", path, limits, n, err)
	}
	return err
}

func TestP14_1_WrongLimits(t *testing.T) {
	b := rich(t)
	path := []int{1, 2}
	for _, limits := range [][]int{
		nil, {-1}, {-1, -1, -1}, {-2, -1}, {-1, -2}, {most + 1, -1}, {-1, most + 1}, {math.MinInt, 5}, {5, math.MaxInt}, {5, math.MinInt},
	} {
		refuses(t, fmt.Sprint("Room by ", limits), b, func() api.Errno { return room(t, b, path, limits) }, api.ErrArg)
		for _, amount := range []int{1, 1201, 0} {
			refuses(t, fmt.Sprint("Hold by ", limits), b, func() api.Errno { return b.Hold(path, limits, amount) }, api.ErrArg)
		}
	}
	for _, limits := range [][]int{{-1, -1}, {701, most}, {most, -1}} {
		does(t, fmt.Sprint("Hold by ", limits), b, b.Hold(path, limits, 1))
		does(t, "Release", b, b.Release(path, 1))
	}
	refuses(t, "Hold by 0", b, func() api.Errno { return b.Hold(path, []int{0, 0}, 1) }, api.ErrLimit)
	refuses(t, "Hold by -2 ahead of a limit", b, func() api.Errno { return b.Hold(path, []int{0, -2}, 1) }, api.ErrArg)
}

func TestP14_1_WrongAmounts(t *testing.T) {
	b := rich(t)
	path := []int{1, 2}
	for _, amount := range amounts {
		refuses(t, fmt.Sprint("TopUp of ", amount), b, func() api.Errno { return b.TopUp(1, amount) }, api.ErrArg)
		refuses(t, fmt.Sprint("Hold of ", amount), b, func() api.Errno { return b.Hold(path, none(2), amount) }, api.ErrArg)
		refuses(t, fmt.Sprint("Hold by limits of ", amount), b, func() api.Errno { return b.Hold(path, []int{0, 0}, amount) }, api.ErrArg)
		refuses(t, fmt.Sprint("Release of ", amount), b, func() api.Errno { return b.Release(path, amount) }, api.ErrArg)
		refuses(t, fmt.Sprint("Commit of ", amount), b, func() api.Errno { return b.Commit(path, amount) }, api.ErrArg)
		refuses(t, fmt.Sprint("Refund of ", amount), b, func() api.Errno { return b.Refund(path, amount) }, api.ErrArg)
	}
}

func TestP14_1_TopUp(t *testing.T) {
	b := funds.New()
	for _, node := range []int{math.MinInt, -1, 0, 33, math.MaxInt} {
		refuses(t, "no node", b, func() api.Errno { return b.TopUp(node, 1) }, api.ErrArg)
	}
	does(t, "1", b, b.TopUp(32, 1))
	if b.Get(32) != (account{Topped: 1}) || b.Available(32) != 1 {
		t.Errorf("node 32 has %+v", b.Get(32))
	}
	does(t, "2^53", b, b.TopUp(1, most), account{Topped: most})
	refuses(t, "1 more", b, func() api.Errno { return b.TopUp(1, 1) }, api.ErrOver)
	refuses(t, "2^53 more", b, func() api.Errno { return b.TopUp(1, most) }, api.ErrOver)
	does(t, "another node", b, b.TopUp(2, 3), account{Topped: most}, account{Topped: 3})
	does(t, "and more", b, b.TopUp(2, 4), account{Topped: most}, account{Topped: 7})
}

func TestP14_1_TopUpBesideWhatWasCarried(t *testing.T) {
	// That much of it is used, held and expired makes no room.
	start := account{Topped: 100, Carried: most - 150, Expired: 10, Used: most - 100, Held: 20}
	b := filled(t, start)
	refuses(t, "51", b, func() api.Errno { return b.TopUp(1, 51) }, api.ErrOver)
	refuses(t, "2^53", b, func() api.Errno { return b.TopUp(1, most) }, api.ErrOver)
	full := start
	full.Topped = 150
	does(t, "50", b, b.TopUp(1, 50), full)
	refuses(t, "1", b, func() api.Errno { return b.TopUp(1, 1) }, api.ErrOver)
	c := filled(t, account{Carried: most})
	refuses(t, "1 beside all", c, func() api.Errno { return c.TopUp(1, 1) }, api.ErrOver)
}

func TestP14_1_HoldOfWhatThereIsRoomFor(t *testing.T) {
	one := account{Topped: 100, Used: 10, Held: 20} // 70
	two := account{Carried: 60, Expired: 10}        // 50
	for _, c := range []struct {
		what         string
		path, limits []int
		most         int
		err          api.Errno
	}{
		{"the first one", []int{1}, none(1), 70, api.ErrCredit},
		{"the last one has less", []int{1, 2}, none(2), 50, api.ErrCredit},
		{"the first one has less", []int{2, 1}, none(2), 50, api.ErrCredit},
		{"a limit", []int{1}, []int{70}, 40, api.ErrLimit},
		{"a limit above what there is", []int{1}, []int{101}, 70, api.ErrCredit},
		{"a limit just there", []int{1}, []int{100}, 70, api.ErrCredit},
		{"a limit one below", []int{1}, []int{99}, 69, api.ErrLimit},
		{"a limit at the last one", []int{1, 2}, []int{-1, 45}, 45, api.ErrLimit},
		{"a limit at the first one", []int{1, 2}, []int{75, 50}, 45, api.ErrLimit},
		{"a limit behind little", []int{2, 1}, []int{-1, 80}, 50, api.ErrCredit},
		{"all three", []int{3, 2, 1}, []int{-1, 90, -1}, 50, api.ErrCredit},
		{"the middle one's limit", []int{3, 2, 1}, []int{-1, 42, -1}, 42, api.ErrLimit},
		{"the last one's limit", []int{3, 2, 1}, []int{-1, 42, 71}, 41, api.ErrLimit},
	} {
		b := filled(t, one, two, account{Topped: most})
		if room, err := b.Room(c.path, c.limits); room != c.most || err != api.OK {
			t.Errorf("%s: Room: %d, %d", c.what, room, err)
		}
		refuses(t, c.what, b, func() api.Errno { return b.Hold(c.path, c.limits, c.most+1) }, c.err)
		want := []account{one, two, {Topped: most}}
		for _, node := range c.path {
			want[node-1].Held += c.most
		}
		does(t, c.what, b, b.Hold(c.path, c.limits, c.most), want...)
		if room, err := b.Room(c.path, c.limits); room != 0 || err != api.OK {
			t.Errorf("%s: Room behind it: %d, %d", c.what, room, err)
		}
		refuses(t, c.what, b, func() api.Errno { return b.Hold(c.path, c.limits, 1) }, c.err)
	}
}

func TestP14_1_HoldAsksNodeByNode(t *testing.T) {
	b := filled(t, account{Topped: 100}, account{Topped: 50}, account{Topped: 200, Used: 10, Held: 20})
	for _, c := range []struct {
		what         string
		path, limits []int
		amount       int
		err          api.Errno
	}{
		{"credit and limit of one", []int{2}, []int{40}, 60, api.ErrCredit},
		{"limit ahead, credit behind", []int{1, 2}, []int{55, -1}, 60, api.ErrLimit},
		{"credit ahead, limit behind", []int{2, 1}, []int{-1, 55}, 60, api.ErrCredit},
		{"limit at last", []int{1, 3}, []int{60, 89}, 60, api.ErrLimit},
		{"credit at last", []int{3, 1, 2}, []int{90, 60, -1}, 60, api.ErrCredit},
		{"credit of nothing", []int{1, 4}, []int{-1, 0}, 1, api.ErrCredit},
		{"limit 0", []int{1, 2}, []int{-1, 0}, 1, api.ErrLimit},
		{"limit lowered below", []int{3}, []int{29}, 1, api.ErrLimit},
		{"2^53", []int{1}, []int{-1}, most, api.ErrCredit},
	} {
		refuses(t, c.what, b, func() api.Errno { return b.Hold(c.path, c.limits, c.amount) }, c.err)
	}
	rich := filled(t, account{Topped: most})
	refuses(t, "2^53 by one less", rich, func() api.Errno { return rich.Hold([]int{1}, []int{most - 1}, most) }, api.ErrLimit)
	does(t, "2^53 by 2^53", rich, rich.Hold([]int{1}, []int{most}, most), account{Topped: most, Held: most})
}

func TestP14_1_BackAndForth(t *testing.T) {
	start := account{Topped: 100, Carried: 50, Expired: 5, Used: 30, Held: 40}
	b := filled(t, start, start, start)
	with := func(held, used int) account {
		a := start
		a.Held += held
		a.Used += used
		return a
	}
	does(t, "Release", b, b.Release([]int{1}, 7), with(-7, 0), start, start)
	does(t, "Commit", b, b.Commit([]int{2, 1}, 9), with(-16, 9), with(-9, 9), start)
	does(t, "Refund", b, b.Refund([]int{3, 1, 2}, 20), with(-16, -11), with(-9, -11), with(0, -20))
	for node, want := range []int{75 + 7 + 20, 75 + 20, 75 + 20} {
		if n := b.Available(node + 1); n != want {
			t.Errorf("at node %d %d are available, not %d", node+1, n, want)
		}
	}
}

func TestP14_1_MoreThanThereIsAtOneNode(t *testing.T) {
	much := account{Topped: 100, Used: 40, Held: 50}
	for place := range 3 {
		accounts := []account{much, much, much}
		accounts[place] = account{Topped: 100, Used: 20, Held: 10}
		b := filled(t, accounts...)
		for _, path := range [][]int{{1, 2, 3}, {3, 1, 2}, {2, 3, 1}, {place + 1}} {
			refuses(t, "Release", b, func() api.Errno { return b.Release(path, 11) }, api.ErrFalse)
			refuses(t, "Commit", b, func() api.Errno { return b.Commit(path, 11) }, api.ErrFalse)
			refuses(t, "Refund", b, func() api.Errno { return b.Refund(path, 21) }, api.ErrFalse)
			refuses(t, "Release of 2^53", b, func() api.Errno { return b.Release(path, most) }, api.ErrFalse)
			refuses(t, "Commit of 2^53", b, func() api.Errno { return b.Commit(path, most) }, api.ErrFalse)
			refuses(t, "Refund of 2^53", b, func() api.Errno { return b.Refund(path, most) }, api.ErrFalse)
		}
		path := []int{1, 2, 3}
		does(t, "Commit", b, b.Commit(path, 10))
		refuses(t, "Release of 1", b, func() api.Errno { return b.Release(path, 1) }, api.ErrFalse)
		does(t, "Refund", b, b.Refund(path, 30))
		refuses(t, "Refund of 1", b, func() api.Errno { return b.Refund(path, 1) }, api.ErrFalse)
		if a := b.Get(place + 1); a != (account{Topped: 100}) || b.Available(place+1) != 100 {
			t.Errorf("node %d has %+v", place+1, a)
		}
	}
}

func TestP14_1_Roll(t *testing.T) {
	for _, c := range []struct {
		what        string
		a           account
		expired     int
		carried     account // behind a Roll with carry
		leftExpired account // behind one without
	}{
		{"noughts", account{}, 0, account{}, account{}},
		{"topped", account{Topped: 9}, 9, account{Carried: 9}, account{}},
		{"carried", account{Carried: 9}, 9, account{Carried: 9}, account{}},
		{"both", account{Topped: 5, Carried: 9}, 14, account{Carried: 14}, account{}},
		{"used", account{Topped: 5, Carried: 9, Used: 6}, 8, account{Carried: 8}, account{}},
		{"all used", account{Topped: 5, Used: 5}, 0, account{}, account{}},
		{"held", account{Topped: 5, Carried: 9, Held: 6}, 8, account{Carried: 14, Held: 6}, account{Carried: 6, Held: 6}},
		{"all held", account{Topped: 5, Held: 5}, 0, account{Carried: 5, Held: 5}, account{Carried: 5, Held: 5}},
		{"expired ahead", account{Topped: 9, Expired: 4}, 5, account{Carried: 5}, account{}},
		{"all expired ahead", account{Topped: 9, Expired: 9}, 0, account{}, account{}},
		{"of each", account{Topped: 50, Carried: 40, Expired: 3, Used: 20, Held: 7}, 60, account{Carried: 67, Held: 7}, account{Carried: 7, Held: 7}},
		{"the greatest", account{Topped: most}, most, account{Carried: most}, account{}},
		{"the greatest ones", account{Topped: 1, Carried: most - 1, Used: 1, Held: 2}, most - 3, account{Carried: most - 1, Held: 2}, account{Carried: 2, Held: 2}},
	} {
		b := filled(t, c.a, account{Topped: 3, Used: 1})
		if n, err := b.Roll(1, true); n != 0 || err != api.OK || b.Get(1) != c.carried {
			t.Errorf("%s, with carry: %d, %d, %+v, not %+v", c.what, n, err, b.Get(1), c.carried)
		}
		does(t, c.what, b, b.Set(1, c.a))
		if n, err := b.Roll(1, false); n != c.expired || err != api.OK || b.Get(1) != c.leftExpired {
			t.Errorf("%s, without carry: %d, %d, %+v, not %d, %+v", c.what, n, err, b.Get(1), c.expired, c.leftExpired)
		}
		if a := b.Get(2); a != (account{Topped: 3, Used: 1}) {
			t.Errorf("%s: another node has %+v", c.what, a)
		}
	}
	b := rich(t)
	for _, node := range []int{math.MinInt, -1, 0, 33, math.MaxInt} {
		for _, carry := range []bool{false, true} {
			refuses(t, "no node", b, func() api.Errno {
				n, err := b.Roll(node, carry)
				if n != 0 {
					t.Errorf("Roll(%d): %d", node, n)
				}
				return err
			}, api.ErrArg)
		}
	}
}

// model is accounts by their nodes, moved in the plainest way.
type model map[int]account

func spare(a account) int { return a.Topped + a.Carried - a.Expired - a.Used - a.Held }

// fits says whether it is a path, and an amount.
func fits(path []int, amount int) bool {
	seen := map[int]int{}
	for _, node := range path {
		seen[node]++
		if node < 1 || node > 32 || seen[node] > 1 {
			return false
		}
	}
	return len(path) > 0 && len(path) < 4 && amount > 0 && amount <= most
}

func (m model) hold(path, limits []int, amount int) api.Errno {
	if !fits(path, amount) || len(limits) != len(path) {
		return api.ErrArg
	}
	for _, limit := range limits {
		if limit < -1 || limit > most {
			return api.ErrArg
		}
	}
	for i, node := range path {
		a := m[node]
		if spare(a) < amount {
			return api.ErrCredit
		}
		if limits[i] >= 0 && a.Used+a.Held+amount > limits[i] {
			return api.ErrLimit
		}
	}
	return m.each(path, amount, account{Held: 1})
}

// each adds an amount so many times to what there is, unless that would come below nought.
func (m model) each(path []int, amount int, times account) api.Errno {
	if !fits(path, amount) {
		return api.ErrArg
	}
	next := model{}
	for _, node := range path {
		a := m[node]
		a.Held += amount * times.Held
		a.Used += amount * times.Used
		if a.Held < 0 || a.Used < 0 {
			return api.ErrFalse
		}
		next[node] = a
	}
	for node, a := range next {
		m[node] = a
	}
	return api.OK
}

func (m model) topUp(node, amount int) api.Errno {
	if !fits([]int{node}, amount) {
		return api.ErrArg
	}
	a := m[node]
	if a.Carried+a.Topped+amount > most {
		return api.ErrOver
	}
	a.Topped += amount
	m[node] = a
	return api.OK
}

// roll answers what expired.
func (m model) roll(node int, carry bool) int {
	a := m[node]
	if carry {
		m[node] = account{Carried: spare(a) + a.Held, Held: a.Held}
		return 0
	}
	m[node] = account{Carried: a.Held, Held: a.Held}
	return spare(a)
}

// ask holds a Room to the greatest amount that can be held.
func (m model) ask(t *testing.T, b *funds.Book, path, limits []int) {
	t.Helper()
	room, err := b.Room(path, limits)
	try := func(amount int) api.Errno {
		copied := model{}
		for node, a := range m {
			copied[node] = a
		}
		return copied.hold(path, limits, amount)
	}
	if want := try(1) != api.ErrArg; (err == api.OK) != want || !want && (err != api.ErrArg || room != 0) {
		t.Fatalf("Room(%v, %v): %d, %d", path, limits, room, err)
	}
	if err == api.OK && (room < 0 || room > 0 && try(room) != api.OK || room < most && try(room+1) == api.OK) {
		t.Fatalf("Room(%v, %v): %d", path, limits, room)
	}
}

func (m model) told() string {
	var nodes []int
	all := ""
	for node := -1; node <= 34; node++ {
		if m[node] != (account{}) {
			nodes = append(nodes, node)
		}
		all += fmt.Sprintln(node, m[node], spare(m[node]))
	}
	return fmt.Sprintln(nodes) + all
}

// chance answers a path, limits and an amount by chance, most of them right.
func chance(r *rand.Rand) (path, limits []int, amount int) {
	path = r.Perm(5)[:r.Intn(4)]
	if r.Intn(30) == 0 {
		path = []int{1, 2, 3, 4}
	}
	for i := range path {
		if path[i] > 0 || r.Intn(3) > 0 {
			path[i] = path[i]%3 + []int{1, 30}[path[i]%2]
		}
		limits = append(limits, []int{-1, -1, -1, 0, 200, 500, 900, most, -2, most + 1}[r.Intn(8+r.Intn(3))])
	}
	if r.Intn(30) == 0 {
		limits = append(limits, -1)
	}
	amount = 1 + r.Intn(100)
	if r.Intn(10) == 0 {
		amount = []int{0, -1, most, most + 1, most - 300, math.MinInt, math.MaxInt}[r.Intn(7)]
	}
	return path, limits, amount
}

// step does something by chance to a book and its model, and answers what both say.
func step(t *testing.T, r *rand.Rand, b *funds.Book, m model) (string, api.Errno, api.Errno) {
	path, limits, amount := chance(r)
	switch r.Intn(9) {
	case 0, 1:
		node := r.Intn(34)
		return "TopUp", b.TopUp(node, amount), m.topUp(node, amount)
	case 2, 3:
		m.ask(t, b, path, limits)
		return "Hold", b.Hold(path, limits, amount), m.hold(path, limits, amount)
	case 4:
		return "Release", b.Release(path, amount), m.each(path, amount, account{Held: -1})
	case 5, 6:
		return "Commit", b.Commit(path, amount), m.each(path, amount, account{Held: -1, Used: 1})
	case 7:
		return "Refund", b.Refund(path, amount), m.each(path, amount, account{Used: -1})
	}
	node, carry := r.Intn(32)+1, r.Intn(2) == 0
	n, err := b.Roll(node, carry)
	if want := m.roll(node, carry); n != want {
		t.Fatalf("Roll(%d, %t): %d, not %d", node, carry, n, want)
	}
	return "Roll", err, api.OK
}

func TestP14_1_AgainstAModel(t *testing.T) {
	seen := map[string]int{}
	for seed := range 150 {
		r := rand.New(rand.NewSource(int64(seed)))
		b, m := funds.New(), model{}
		for _, node := range []int{1, 2, 3, 30, 31, 32} {
			b.TopUp(node, 1000)
			m.topUp(node, 1000)
		}
		for range 200 {
			what, got, want := step(t, r, b, m)
			if got != want {
				t.Fatalf("seed %d: %s: %d, not %d", seed, what, got, want)
			}
			if told(b) != m.told() {
				t.Fatalf("seed %d: behind %s: %s, not %s", seed, what, told(b), m.told())
			}
			seen[fmt.Sprint(what, want)]++
		}
	}
	for what, errs := range map[string][]api.Errno{
		"TopUp": {api.OK, api.ErrArg, api.ErrOver}, "Hold": {api.OK, api.ErrArg, api.ErrCredit, api.ErrLimit}, "Roll": {api.OK},
		"Release": {api.OK, api.ErrArg, api.ErrFalse}, "Commit": {api.OK, api.ErrArg, api.ErrFalse}, "Refund": {api.OK, api.ErrArg, api.ErrFalse},
	} {
		for _, err := range errs {
			if seen[fmt.Sprint(what, err)] == 0 {
				t.Errorf("no %s came to %d", what, err)
			}
		}
	}
}

func TestP14_2_NeverBelowNought(t *testing.T) {
	for seed := range 150 {
		r := rand.New(rand.NewSource(int64(1000 + seed)))
		b, m := funds.New(), model{}
		for range 200 {
			step(t, r, b, m)
			for node := range 33 {
				// What comes of all this is an account still, that could be set.
				a := b.Get(node)
				if b.Available(node) < 0 || a.Held < 0 || funds.New().Set(1, a) != api.OK {
					t.Fatalf("seed %d: node %d has %+v", seed, node, a)
				}
			}
		}
	}
}

func TestP14_3_BackToWhatItWas(t *testing.T) {
	start := account{Topped: 100, Carried: 50, Expired: 5, Used: 30, Held: 40}
	for _, path := range [][]int{{1}, {1, 2}, {3, 1, 2}} {
		for _, amount := range []int{1, 74, 75} {
			limits := none(len(path))
			b := filled(t, start, start, start)
			does(t, "Hold", b, b.Hold(path, limits, amount))
			for _, node := range path {
				if n := b.Available(node); n != 75-amount {
					t.Errorf("behind a hold of %d: %d", amount, n)
				}
			}
			does(t, "Release", b, b.Release(path, amount), start, start, start)
			does(t, "Hold", b, b.Hold(path, limits, amount))
			does(t, "Commit", b, b.Commit(path, amount))
			for _, node := range path {
				if n := b.Available(node); n != 75-amount {
					t.Errorf("behind a commit of %d: %d", amount, n)
				}
			}
			does(t, "Refund", b, b.Refund(path, amount), start, start, start)
		}
	}
}

func TestP14_4_NothingIsChangedOrKept(t *testing.T) {
	b := rich(t)
	path, limits := []int{1, 2, 77, 78}, []int{900, -1, 77, 78}
	p, l := path[:2], limits[:2]
	b.Room(p, l)
	does(t, "Hold", b, b.Hold(p, l, 5))
	does(t, "Release", b, b.Release(p, 1))
	does(t, "Commit", b, b.Commit(p, 2))
	does(t, "Refund", b, b.Refund(p, 2))
	if !slices.Equal(path, []int{1, 2, 77, 78}) || !slices.Equal(limits, []int{900, -1, 77, 78}) {
		t.Errorf("the arguments are %v, %v now", path, limits)
	}
	before := told(b)
	clear(path)
	clear(limits)
	one, two := b.Nodes(), b.Nodes()
	clear(one[:cap(one)])
	if !slices.Equal(two, []int{1, 2, 3, 4, 5}) || told(b) != before {
		t.Errorf("Nodes are %v now, and the book is %s", two, told(b))
	}
	other := rich(t)
	other.TopUp(1, 5)
	other.Roll(2, false)
	if told(b) != before {
		t.Errorf("one book has changed with another one")
	}
}
