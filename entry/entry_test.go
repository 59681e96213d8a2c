package entry_test

import (
	"bytes"
	"encoding/binary"
	"math"
	"math/rand"
	"reflect"
	"slices"
	"testing"

	"purser/api"
	"purser/entry"
)

const most = 1 << 53

type (
	acc = entry.Account
	leg = entry.Leg
)

// every answers all accounts there are, in their order.
func every() []acc {
	all := []acc{{1, 0, 0}}
	for node := 1; node <= 32; node++ {
		all = append(all, acc{2, node, 0})
	}
	for node := 1; node <= 32; node++ {
		all = append(all, acc{3, node, 0})
	}
	for node := 1; node <= 32; node++ {
		for group := 1; group <= 8; group++ {
			all = append(all, acc{4, node, group})
		}
	}
	for node := 1; node <= 32; node++ {
		all = append(all, acc{5, node, 0})
	}
	return all
}

// places answers where each account stands in the order of all.
func places() map[acc]int {
	all := map[acc]int{}
	for i, a := range every() {
		all[a] = i
	}
	return all
}

// checked answers what Check has to, by the list of all accounts.
func checked(e entry.Entry, places map[acc]int) api.Errno {
	if !slices.Contains([]int{1, 2, 3, 4, 5, 6}, e.Kind) {
		return api.ErrKind
	}
	if n := len(e.Legs); n < 2 || n > 64 {
		return api.ErrArg
	}
	last, above, below := -1, 0, 0
	for _, l := range e.Legs {
		place, is := places[l.Account]
		switch {
		case !is:
			return api.ErrArg
		case l.Amount == 0 || l.Amount > most || l.Amount < -most:
			return api.ErrBig
		case place <= last:
			return api.ErrOrder
		case l.Amount > 0:
			above += l.Amount
		default:
			below += l.Amount
		}
		last = place
	}
	if above != -below {
		return api.ErrFalse
	}
	return api.OK
}

func copied(e entry.Entry) entry.Entry {
	return entry.Entry{Kind: e.Kind, Legs: slices.Clone(e.Legs)}
}

// some answers an entry of n legs on accounts by chance.
func some(r *rand.Rand, n int, all []acc) entry.Entry {
	places := r.Perm(len(all))[:n]
	slices.Sort(places)
	e := entry.Entry{Kind: 1 + r.Intn(6)}
	sum := 0
	for i, p := range places {
		amount := r.Intn(2000) - 1000
		if i == n-1 {
			amount = -sum
		}
		if amount == 0 && i < n-1 {
			amount = 7
		}
		sum += amount
		e.Legs = append(e.Legs, leg{all[p], amount})
	}
	// The last one may have come to nought: then the first one gives it 1.
	if e.Legs[n-1].Amount == 0 {
		e.Legs[n-1].Amount = -5000
		e.Legs[0].Amount += 5000
	}
	return e
}

// spoilt changes one thing of an entry by chance.
func spoilt(r *rand.Rand, e entry.Entry) entry.Entry {
	e = copied(e)
	if len(e.Legs) == 0 {
		return e
	}
	numbers := []int{-1, 0, 1, 2, 3, 4, 5, 6, 7, 8, 9, 31, 32, 33, 64, 65, math.MinInt, math.MaxInt}
	amounts := []int{0, 1, -1, most, most + 1, -most, -most - 1, math.MinInt, math.MaxInt}
	l := &e.Legs[r.Intn(len(e.Legs))]
	number := numbers[r.Intn(len(numbers))]
	switch r.Intn(9) {
	case 0:
		e.Kind = number
	case 1:
		l.Account.Kind = number
	case 2:
		l.Account.Node = number
	case 3:
		l.Account.Group = number
	case 4:
		l.Amount = amounts[r.Intn(len(amounts))]
	case 5:
		l.Amount++
	case 6:
		other := &e.Legs[r.Intn(len(e.Legs))]
		*l, *other = *other, *l
	case 7:
		e.Legs = e.Legs[:r.Intn(len(e.Legs)+1)]
	case 8:
		l.Account = e.Legs[r.Intn(len(e.Legs))].Account
	}
	return e
}

// wide answers an entry with so many legs: of each two accounts one is debited, one credited; an odd one takes 2.
func wide(n int) entry.Entry {
	e := entry.Entry{Kind: 4}
	for i, a := range every()[:n] {
		e.Legs = append(e.Legs, leg{a, 1 - 2*(i%2)})
	}
	if n%2 == 1 {
		e.Legs[n-2].Amount = -2
	}
	return e
}

func TestP7_1_CheckTakes(t *testing.T) {
	cases := map[string]entry.Entry{
		"two legs":     {1, []leg{{acc{1, 0, 0}, 1}, {acc{2, 1, 0}, -1}}},
		"the greatest": {2, []leg{{acc{2, 32, 0}, most}, {acc{3, 32, 0}, -most}}},
		"the least":    {3, []leg{{acc{2, 1, 0}, -most}, {acc{5, 1, 0}, most}}},
		"by node":      {6, []leg{{acc{4, 1, 8}, 1}, {acc{4, 2, 1}, -1}}},
		"by group":     {6, []leg{{acc{4, 32, 7}, -1}, {acc{4, 32, 8}, 1}}},
		"by kind":      {5, []leg{{acc{4, 32, 8}, -1}, {acc{5, 1, 0}, 1}}},
		"debits alone at the end": {4, []leg{{acc{2, 1, 0}, -most}, {acc{2, 2, 0}, -most}, {acc{3, 1, 0}, -1},
			{acc{3, 5, 0}, most}, {acc{5, 1, 0}, most}, {acc{5, 2, 0}, 1}}},
		"2 legs": wide(2), "3 legs": wide(3), "63 legs": wide(63), "64 legs": wide(64),
	}
	for what, e := range cases {
		if err := entry.Check(e); err != api.OK {
			t.Errorf("%s: Check answers %d", what, err)
		}
	}
	for _, a := range every() {
		e := entry.Entry{Kind: 1, Legs: []leg{{acc{1, 0, 0}, 1}, {a, -1}}}
		if a.Kind == 1 {
			e.Legs[1].Account = acc{2, 1, 0}
		}
		if err := entry.Check(e); err != api.OK {
			t.Errorf("Check with account %v: %d", a, err)
		}
	}
}

func TestP7_1_CheckRefuses(t *testing.T) {
	cash, funds, held := acc{1, 0, 0}, acc{2, 1, 0}, acc{3, 1, 0}
	type wrong struct {
		what string
		e    entry.Entry
		err  api.Errno
	}
	cases := []wrong{
		{"nothing", entry.Entry{}, api.ErrKind},
		{"kind 0", entry.Entry{0, wide(2).Legs}, api.ErrKind},
		{"kind 7", entry.Entry{7, wide(2).Legs}, api.ErrKind},
		{"kind -1", entry.Entry{-1, wide(2).Legs}, api.ErrKind},
		{"the least kind", entry.Entry{math.MinInt, wide(2).Legs}, api.ErrKind},
		{"the greatest kind", entry.Entry{math.MaxInt, wide(2).Legs}, api.ErrKind},
		{"no legs", entry.Entry{1, nil}, api.ErrArg},
		{"one leg", entry.Entry{1, wide(1 + 1).Legs[:1]}, api.ErrArg},
		{"65 legs", wide(65), api.ErrArg},
		{"80 legs", wide(80), api.ErrArg},
		{"amount 0", entry.Entry{1, []leg{{cash, 0}, {funds, 1}}}, api.ErrBig},
		{"amount 0 behind", entry.Entry{1, []leg{{cash, 1}, {funds, 0}}}, api.ErrBig},
		{"too great", entry.Entry{1, []leg{{cash, most + 1}, {funds, -most - 1}}}, api.ErrBig},
		{"too small", entry.Entry{1, []leg{{cash, -most - 1}, {funds, most + 1}}}, api.ErrBig},
		{"the least int", entry.Entry{1, []leg{{cash, math.MinInt}, {funds, 1}}}, api.ErrBig},
		{"the greatest int", entry.Entry{1, []leg{{cash, 1}, {funds, math.MaxInt}}}, api.ErrBig},
		{"alike", entry.Entry{1, []leg{{funds, 1}, {funds, -1}}}, api.ErrOrder},
		{"kinds fall", entry.Entry{1, []leg{{held, 1}, {funds, -1}}}, api.ErrOrder},
		{"nodes fall", entry.Entry{1, []leg{{acc{2, 2, 0}, 1}, {acc{2, 1, 0}, -1}}}, api.ErrOrder},
		{"groups fall", entry.Entry{1, []leg{{acc{4, 2, 2}, 1}, {acc{4, 2, 1}, -1}}}, api.ErrOrder},
		{"groups rise, nodes fall", entry.Entry{1, []leg{{acc{4, 2, 1}, 1}, {acc{4, 1, 2}, -1}}}, api.ErrOrder},
		{"the last falls", entry.Entry{1, []leg{{cash, 1}, {funds, 1}, {acc{2, 2, 0}, -1}, {acc{2, 1, 0}, -1}}}, api.ErrOrder},
		{"one over", entry.Entry{1, []leg{{cash, 1}, {funds, -2}}}, api.ErrFalse},
		{"debits alone", entry.Entry{1, []leg{{cash, most}, {funds, most}}}, api.ErrFalse},
		{"credits alone", entry.Entry{1, []leg{{cash, -most}, {funds, -most}}}, api.ErrFalse},
		// The first of all that is wrong: the kind, the legs one by one, the sum.
		{"kind, no legs", entry.Entry{9, nil}, api.ErrKind},
		{"kind, all", entry.Entry{9, []leg{{acc{9, 9, 9}, 0}, {acc{9, 9, 9}, 0}}}, api.ErrKind},
		{"one leg, too great", entry.Entry{1, []leg{{cash, most + 1}}}, api.ErrArg},
		{"account and amount", entry.Entry{1, []leg{{cash, 1}, {acc{2, 33, 0}, 0}}}, api.ErrArg},
		{"amount and order", entry.Entry{1, []leg{{funds, 1}, {funds, 0}}}, api.ErrBig},
		{"order and account", entry.Entry{1, []leg{{funds, 1}, {acc{1, 1, 0}, 1}}}, api.ErrArg},
		{"amount, then account", entry.Entry{1, []leg{{cash, 0}, {acc{}, 1}}}, api.ErrBig},
		{"order, then account", entry.Entry{1, []leg{{funds, 1}, {cash, 1}, {acc{}, 1}}}, api.ErrOrder},
		{"order, then amount", entry.Entry{1, []leg{{funds, 1}, {cash, 1}, {held, 0}}}, api.ErrOrder},
		{"account, then order", entry.Entry{1, []leg{{acc{2, 0, 0}, 1}, {funds, 1}, {funds, 1}}}, api.ErrArg},
		{"order and sum", entry.Entry{1, []leg{{funds, 1}, {cash, 1}}}, api.ErrOrder},
	}
	none := []acc{
		{0, 0, 0}, {6, 1, 0}, {-1, 0, 0}, {6, 0, 0}, {math.MinInt, 1, 0}, {math.MaxInt, 1, 0},
		{1, 1, 0}, {1, 0, 1}, {1, -1, 0}, {1, 0, -1}, {1, 32, 8},
		{2, 0, 0}, {2, 33, 0}, {2, -1, 0}, {2, 1, 1}, {2, 32, -1}, {2, math.MaxInt, 0}, {2, math.MinInt, 0},
		{3, 0, 0}, {3, 33, 0}, {3, -1, 0}, {3, 1, 1}, {3, 32, 8},
		{5, 0, 0}, {5, 33, 0}, {5, -1, 0}, {5, 1, 1}, {5, 32, 8},
		{4, 0, 1}, {4, 1, 0}, {4, 33, 1}, {4, 1, 9}, {4, -1, 1}, {4, 1, -1}, {4, 0, 0}, {4, math.MaxInt, 8}, {4, 1, math.MaxInt},
		{4, math.MinInt, 8}, {4, 1, math.MinInt},
	}
	for _, a := range none {
		cases = append(cases, wrong{"first account", entry.Entry{1, []leg{{a, 1}, {acc{5, 32, 0}, -1}}}, api.ErrArg})
		cases = append(cases, wrong{"second account", entry.Entry{1, []leg{{cash, 1}, {a, -1}}}, api.ErrArg})
	}
	for _, c := range cases {
		if err := entry.Check(c.e); err != c.err {
			t.Errorf("%s: Check(%v) answers %d, not %d", c.what, c.e, err, c.err)
		}
		if b, err := entry.Write(c.e); b != nil || err != c.err {
			t.Errorf("%s: Write(%v) answers %v, %d, not %d", c.what, c.e, b, err, c.err)
		}
		if sum := entry.Sum(c.e); sum != 0 {
			t.Errorf("%s: Sum(%v) = %d", c.what, c.e, sum)
		}
	}
}

func TestP7_1_CheckOfAll(t *testing.T) {
	r := rand.New(rand.NewSource(7))
	all, places := every(), places()
	seen := map[api.Errno]int{}
	for range 20000 {
		n := 2 + r.Intn(6)
		if r.Intn(10) == 0 {
			n = 60 + r.Intn(7)
		}
		e := some(r, n, all)
		for range r.Intn(4) {
			e = spoilt(r, e)
		}
		want := checked(e, places)
		seen[want]++
		if err := entry.Check(e); err != want {
			t.Fatalf("Check(%v) answers %d, not %d", e, err, want)
		}
	}
	for _, err := range []api.Errno{api.OK, api.ErrKind, api.ErrArg, api.ErrBig, api.ErrOrder, api.ErrFalse} {
		if seen[err] < 100 {
			t.Errorf("only %d entries of %d", seen[err], err)
		}
	}
}

func TestP7_1_Make(t *testing.T) {
	cases := []struct {
		kind, amount int
		path         []int
		group        int
		legs         []leg
	}{
		{1, 5, []int{1}, 0, []leg{{acc{1, 0, 0}, 5}, {acc{2, 1, 0}, -5}}},
		{1, 5, []int{9, 3, 32}, 4, []leg{{acc{1, 0, 0}, 15}, {acc{2, 3, 0}, -5}, {acc{2, 9, 0}, -5}, {acc{2, 32, 0}, -5}}},
		{2, 5, []int{1, 2}, 0, []leg{{acc{2, 1, 0}, 5}, {acc{2, 2, 0}, 5}, {acc{3, 1, 0}, -5}, {acc{3, 2, 0}, -5}}},
		{2, 1, []int{2, 1}, 99, []leg{{acc{2, 1, 0}, 1}, {acc{2, 2, 0}, 1}, {acc{3, 1, 0}, -1}, {acc{3, 2, 0}, -1}}},
		{3, 5, []int{4}, -1, []leg{{acc{2, 4, 0}, -5}, {acc{3, 4, 0}, 5}}},
		{3, most, []int{3, 1, 2}, 0, []leg{{acc{2, 1, 0}, -most}, {acc{2, 2, 0}, -most}, {acc{2, 3, 0}, -most},
			{acc{3, 1, 0}, most}, {acc{3, 2, 0}, most}, {acc{3, 3, 0}, most}}},
		{4, 5, []int{7}, 8, []leg{{acc{3, 7, 0}, 5}, {acc{4, 7, 8}, -5}}},
		{4, most, []int{31, 7}, 1, []leg{{acc{3, 7, 0}, most}, {acc{3, 31, 0}, most}, {acc{4, 7, 1}, -most}, {acc{4, 31, 1}, -most}}},
		{5, 5, []int{6}, math.MinInt, []leg{{acc{2, 6, 0}, 5}, {acc{5, 6, 0}, -5}}},
		{5, 2, []int{6, 5}, 1, []leg{{acc{2, 5, 0}, 2}, {acc{2, 6, 0}, 2}, {acc{5, 5, 0}, -2}, {acc{5, 6, 0}, -2}}},
		{6, 5, []int{8}, 3, []leg{{acc{2, 8, 0}, -5}, {acc{4, 8, 3}, 5}}},
		{6, 1, []int{10, 20, 30}, 8, []leg{{acc{2, 10, 0}, -1}, {acc{2, 20, 0}, -1}, {acc{2, 30, 0}, -1},
			{acc{4, 10, 8}, 1}, {acc{4, 20, 8}, 1}, {acc{4, 30, 8}, 1}}},
		{1, most, []int{32}, 0, []leg{{acc{1, 0, 0}, most}, {acc{2, 32, 0}, -most}}},
		{1, most / 2, []int{32, 1}, 0, []leg{{acc{1, 0, 0}, most}, {acc{2, 1, 0}, -most / 2}, {acc{2, 32, 0}, -most / 2}}},
		{1, most / 3, []int{3, 2, 1}, 0, []leg{{acc{1, 0, 0}, most / 3 * 3}, {acc{2, 1, 0}, -(most / 3)}, {acc{2, 2, 0}, -(most / 3)}, {acc{2, 3, 0}, -(most / 3)}}},
	}
	for _, c := range cases {
		e, err := entry.Make(c.kind, c.amount, c.path, c.group)
		if err != api.OK || e.Kind != c.kind || !slices.Equal(e.Legs, c.legs) {
			t.Errorf("Make(%d, %d, %v, %d) = %v, %d, not %v", c.kind, c.amount, c.path, c.group, e, err, c.legs)
		}
	}
}

func TestP7_1_MakeRefuses(t *testing.T) {
	cases := []struct {
		kind, amount int
		path         []int
		group        int
		err          api.Errno
	}{
		{0, 5, []int{1}, 1, api.ErrKind},
		{7, 5, []int{1}, 1, api.ErrKind},
		{-1, 0, nil, 9, api.ErrKind},
		{math.MinInt, 5, []int{1}, 1, api.ErrKind},
		{math.MaxInt, 5, []int{1}, 1, api.ErrKind},
		{2, 0, []int{1}, 1, api.ErrArg},
		{2, -1, []int{1}, 1, api.ErrArg},
		{2, math.MinInt, []int{1}, 1, api.ErrArg},
		{2, most + 1, []int{1}, 1, api.ErrArg},
		{1, most + 1, []int{1}, 1, api.ErrArg},
		{2, math.MaxInt, []int{1}, 1, api.ErrArg},
		{1, 5, nil, 1, api.ErrArg},
		{1, 5, []int{}, 1, api.ErrArg},
		{1, 5, []int{1, 2, 3, 4}, 1, api.ErrArg},
		{1, most, []int{1, 2, 3, 4}, 1, api.ErrArg},
		{1, 5, make([]int, 1000), 1, api.ErrArg},
		{2, 5, []int{1, 1}, 1, api.ErrArg},
		{2, 5, []int{1, 2, 1}, 1, api.ErrArg},
		{2, 5, []int{2, 1, 1}, 1, api.ErrArg},
		{2, 5, []int{1, 1, 2}, 1, api.ErrArg},
		{2, 5, []int{3, 3, 3}, 1, api.ErrArg},
		{1, 5, []int{0}, 1, api.ErrArg},
		{3, 5, []int{33}, 1, api.ErrArg},
		{4, 5, []int{-1}, 1, api.ErrArg},
		{5, 5, []int{1, 33}, 1, api.ErrArg},
		{6, 5, []int{math.MinInt, 1, math.MaxInt}, 1, api.ErrArg},
		{4, 5, []int{1}, 0, api.ErrArg},
		{4, 5, []int{1}, 9, api.ErrArg},
		{4, 5, []int{1}, -1, api.ErrArg},
		{6, 5, []int{1}, 0, api.ErrArg},
		{6, 5, []int{1}, 9, api.ErrArg},
		{6, 5, []int{1}, math.MinInt, api.ErrArg},
		{6, 5, []int{1}, math.MaxInt, api.ErrArg},
		// The Cash leg is that of all nodes together, and is the first one.
		{1, most, []int{1, 2}, 1, api.ErrBig},
		{1, most/2 + 1, []int{1, 2}, 1, api.ErrBig},
		{1, most/3 + 1, []int{1, 2, 3}, 1, api.ErrBig},
		{1, most, []int{1, 2, 3}, 1, api.ErrBig},
		{1, most, []int{1, 33}, 1, api.ErrBig},
		{1, most, []int{-1, 0, 33}, 1, api.ErrBig},
		{1, most, []int{1, 1}, 1, api.ErrArg},
		{1, most, []int{33}, 1, api.ErrArg},
	}
	for _, c := range cases {
		e, err := entry.Make(c.kind, c.amount, c.path, c.group)
		if err != c.err || e.Kind != 0 || e.Legs != nil {
			t.Errorf("Make(%d, %d, %v, %d) = %v, %d, not %d", c.kind, c.amount, c.path, c.group, e, err, c.err)
		}
	}
}

// paths answers paths of one to three nodes.
func paths() [][]int {
	return [][]int{{1}, {32}, {17}, {1, 2}, {32, 1}, {9, 8}, {1, 2, 3}, {3, 2, 1}, {2, 32, 1}, {32, 31, 30}}
}

func TestP7_2_MadeIsTaken(t *testing.T) {
	for kind := 1; kind <= 6; kind++ {
		for _, amount := range []int{1, 2, 63, 64, 127, 128, 1 << 31, most / 3, most / 2, most - 1, most} {
			for _, path := range paths() {
				for group := 1; group <= 8; group++ {
					e, err := entry.Make(kind, amount, path, group)
					if kind == 1 && amount*len(path) > most {
						if err != api.ErrBig {
							t.Fatalf("Make(%d, %d, %v, %d): %d", kind, amount, path, group, err)
						}
						continue
					}
					if err != api.OK {
						t.Fatalf("Make(%d, %d, %v, %d): %d", kind, amount, path, group, err)
					}
					comesBack(t, e)
					if sum := entry.Sum(e); sum != amount*len(path) {
						t.Fatalf("Sum(%v) = %d", e, sum)
					}
				}
			}
		}
	}
}

// comesBack holds an entry against what Check says of it, and against what is read of its bytes.
func comesBack(t *testing.T, e entry.Entry) {
	t.Helper()
	if err := entry.Check(e); err != api.OK {
		t.Fatalf("Check(%v): %d", e, err)
	}
	b, err := entry.Write(e)
	if err != api.OK || !bytes.Equal(b, written(e)) {
		t.Fatalf("Write(%v): %v, %d", e, b, err)
	}
	if back, err := entry.Read(b); err != api.OK || !reflect.DeepEqual(back, e) {
		t.Fatalf("Read(Write(%v)): %v, %d", e, back, err)
	}
}

// written answers an entry's parts by the library's numbers of the same form.
func written(e entry.Entry) []byte {
	b := binary.AppendUvarint(nil, uint64(e.Kind))
	b = binary.AppendUvarint(b, uint64(len(e.Legs)))
	for _, l := range e.Legs {
		b = binary.AppendUvarint(b, uint64(l.Account.Kind))
		b = binary.AppendUvarint(b, uint64(l.Account.Node))
		b = binary.AppendUvarint(b, uint64(l.Account.Group))
		b = binary.AppendVarint(b, int64(l.Amount))
	}
	return b
}

func TestP7_2_AnyEntryComesBack(t *testing.T) {
	r := rand.New(rand.NewSource(72))
	all := every()
	for range 3000 {
		comesBack(t, some(r, 2+r.Intn(63), all))
	}
	comesBack(t, entry.Entry{Kind: 6, Legs: []leg{{acc{4, 32, 8}, most}, {acc{5, 32, 0}, -most}}})
	comesBack(t, wide(64))
}

func TestP7_1_WriteBytes(t *testing.T) {
	e, _ := entry.Make(entry.Commit, 300, []int{32}, 8)
	b, err := entry.Write(e)
	want := []byte{4, 2, 3, 32, 0, 0xd8, 4, 4, 32, 8, 0xd7, 4}
	if err != api.OK || !bytes.Equal(b, want) {
		t.Errorf("Write(%v) = %x, %d, not %x", e, b, err, want)
	}
}

// refuses holds that the bytes aren't read, with this error.
func refuses(t *testing.T, what string, b []byte, want api.Errno) {
	t.Helper()
	if e, err := entry.Read(b); err != want || e.Kind != 0 || e.Legs != nil {
		t.Errorf("%s: Read(%x) = %v, %d, not %d", what, b, e, err, want)
	}
}

func TestP7_1_ReadForm(t *testing.T) {
	good := written(entry.Entry{Kind: 4, Legs: []leg{{acc{3, 7, 0}, 300}, {acc{4, 7, 1}, -300}}})
	for n := range good {
		refuses(t, "cut short", good[:n], api.ErrForm)
	}
	for c := range 256 {
		refuses(t, "more behind", append(slices.Clone(good), byte(c)), api.ErrForm)
	}
	refuses(t, "nothing", nil, api.ErrForm)
	refuses(t, "twice", append(slices.Clone(good), good...), api.ErrForm)
	refuses(t, "a kind in two groups", append([]byte{0x84, 0}, good[1:]...), api.ErrForm)
	refuses(t, "a count that doesn't end", bytes.Repeat([]byte{0xff}, 40), api.ErrForm)
	refuses(t, "an amount of eleven groups", append(append(slices.Clone(good[:5]), bytes.Repeat([]byte{0x80}, 10)...), 1), api.ErrForm)
	wide, _ := entry.Write(wide(64))
	for n := range wide {
		refuses(t, "64 legs cut short", wide[:n], api.ErrForm)
	}
}

func TestP7_1_ReadNumbers(t *testing.T) {
	right := entry.Entry{Kind: 4, Legs: []leg{{acc{3, 7, 0}, 300}, {acc{4, 7, 1}, -300}}}
	// Numbers up to 64 are parts, though they may be no kind, node or group; above it they aren't.
	for _, n := range []int{7, 33, 63, 64, 65, 66, 127, 128, 129, 1 << 20, math.MaxInt} {
		places := map[string]func(e *entry.Entry){
			"kind":          func(e *entry.Entry) { e.Kind = n },
			"account":       func(e *entry.Entry) { e.Legs[0].Account.Kind = n },
			"second's":      func(e *entry.Entry) { e.Legs[1].Account.Kind = n },
			"node":          func(e *entry.Entry) { e.Legs[0].Account.Node = n + 26 },
			"group":         func(e *entry.Entry) { e.Legs[0].Account.Group = n },
			"group of last": func(e *entry.Entry) { e.Legs[1].Account.Group = n + 2 },
		}
		for what, change := range places {
			e := copied(right)
			change(&e)
			want := api.ErrArg
			if what == "kind" {
				want = api.ErrKind
			}
			if max(e.Kind, e.Legs[0].Account.Kind, e.Legs[0].Account.Node, e.Legs[0].Account.Group, e.Legs[1].Account.Kind, e.Legs[1].Account.Group) > 64 {
				want = api.ErrForm
			}
			if n == math.MaxInt {
				want = api.ErrForm
			}
			refuses(t, what, written(e), want)
		}
	}
	// A kind of 7 to 64 is told only of parts that are whole.
	b := written(entry.Entry{Kind: 64, Legs: right.Legs})
	refuses(t, "kind 64", b, api.ErrKind)
	refuses(t, "kind 64, cut", b[:len(b)-1], api.ErrForm)
	refuses(t, "kind 64, more", append(b, 0), api.ErrForm)
	refuses(t, "kind 0", written(entry.Entry{Kind: 0, Legs: right.Legs}), api.ErrKind)
	refuses(t, "no legs", []byte{1, 0}, api.ErrArg)
	refuses(t, "one leg", written(entry.Entry{Kind: 1, Legs: right.Legs[:1]}), api.ErrArg)
	refuses(t, "65 legs", written(wide(65)), api.ErrForm)
	refuses(t, "65 legs promised", []byte{1, 65}, api.ErrForm)
	refuses(t, "65 legs promised, two there", append([]byte{4, 65}, written(right)[2:]...), api.ErrForm)
}

func TestP7_1_ReadChecks(t *testing.T) {
	cash, funds := acc{1, 0, 0}, acc{2, 1, 0}
	refuses(t, "amount 0", written(entry.Entry{1, []leg{{cash, 0}, {funds, 1}}}), api.ErrBig)
	refuses(t, "too great", written(entry.Entry{1, []leg{{cash, most + 1}, {funds, -most - 1}}}), api.ErrBig)
	refuses(t, "the least int", written(entry.Entry{1, []leg{{cash, math.MinInt}, {funds, 1}}}), api.ErrBig)
	refuses(t, "the greatest int", written(entry.Entry{1, []leg{{cash, math.MaxInt}, {funds, 1}}}), api.ErrBig)
	refuses(t, "order", written(entry.Entry{1, []leg{{funds, 1}, {cash, -1}}}), api.ErrOrder)
	refuses(t, "sum", written(entry.Entry{1, []leg{{cash, 1}, {funds, -2}}}), api.ErrFalse)
	r := rand.New(rand.NewSource(73))
	all, places := every(), places()
	for range 5000 {
		e := some(r, 2+r.Intn(6), all)
		for range 1 + r.Intn(2) {
			e = spoilt(r, e)
		}
		want, small := checked(e, places), e.Kind <= 64 && e.Kind >= 0
		for _, l := range e.Legs {
			a := l.Account
			small = small && min(a.Kind, a.Node, a.Group) >= 0 && max(a.Kind, a.Node, a.Group) <= 64
		}
		if !small {
			want = api.ErrForm
		}
		back, err := entry.Read(written(e))
		if err != want || (err == api.OK) != (len(back.Legs) > 0) {
			t.Fatalf("Read of %v: %v, %d, not %d", e, back, err, want)
		}
	}
}

// Of all bytes: what is read is written as the same bytes again.
func TestP7_1_ReadOfAll(t *testing.T) {
	r := rand.New(rand.NewSource(74))
	all, read := every(), 0
	for range 20000 {
		b := written(some(r, 2+r.Intn(3), all))
		for range r.Intn(3) {
			b[r.Intn(len(b))] = byte(r.Intn(256))
		}
		e, err := entry.Read(b)
		if err != api.OK {
			if e.Kind != 0 || e.Legs != nil {
				t.Fatalf("Read(%x): %v beside %d", b, e, err)
			}
			continue
		}
		read++
		if again, err := entry.Write(e); err != api.OK || !bytes.Equal(again, b) {
			t.Fatalf("Read(%x) is written as %x, %d", b, again, err)
		}
	}
	if read < 1000 {
		t.Errorf("only %d were read", read)
	}
}

func TestP7_1_Sum(t *testing.T) {
	if sum := entry.Sum(wide(64)); sum != 32 {
		t.Errorf("Sum of 32 debits of 1: %d", sum)
	}
	great := entry.Entry{Kind: 1}
	for i, a := range every()[:64] {
		great.Legs = append(great.Legs, leg{a, most * (1 - 2*(i%2))})
	}
	if sum := entry.Sum(great); sum != 1<<58 {
		t.Errorf("Sum of 32 debits of 2^53: %d", sum)
	}
	great.Kind = 0
	if sum := entry.Sum(great); sum != 0 {
		t.Errorf("Sum of what is none: %d", sum)
	}
}

func TestP7_1_Opposite(t *testing.T) {
	cases := []struct{ e, want entry.Entry }{
		{entry.Entry{}, entry.Entry{}},
		{entry.Entry{Kind: -9}, entry.Entry{Kind: -9}},
		{entry.Entry{2, []leg{{acc{2, 1, 0}, 5}, {acc{3, 1, 0}, -5}}}, entry.Entry{2, []leg{{acc{2, 1, 0}, -5}, {acc{3, 1, 0}, 5}}}},
		// It asks of nothing whether it is an entry.
		{entry.Entry{99, []leg{{acc{9, -9, 99}, 0}}}, entry.Entry{99, []leg{{acc{9, -9, 99}, 0}}}},
		{entry.Entry{1, []leg{{acc{}, math.MinInt}, {acc{}, math.MaxInt}, {acc{}, math.MinInt + 1}}},
			entry.Entry{1, []leg{{acc{}, math.MinInt}, {acc{}, -math.MaxInt}, {acc{}, math.MaxInt}}}},
	}
	for _, c := range cases {
		got := entry.Opposite(c.e)
		if got.Kind != c.want.Kind || !slices.Equal(got.Legs, c.want.Legs) {
			t.Errorf("Opposite(%v) = %v, not %v", c.e, got, c.want)
		}
	}
	long := entry.Entry{Kind: 1, Legs: make([]leg, 1000)}
	for i := range long.Legs {
		long.Legs[i].Amount = i
	}
	got := entry.Opposite(long)
	for i, l := range got.Legs {
		if l.Amount != -i {
			t.Fatalf("Opposite's leg %d: %v", i, l)
		}
	}
	if len(got.Legs) != 1000 {
		t.Errorf("Opposite has %d legs", len(got.Legs))
	}
	e := wide(64)
	if back := entry.Opposite(entry.Opposite(e)); !reflect.DeepEqual(back, e) {
		t.Errorf("the opposite's opposite: %v", back)
	}
	if err := entry.Check(entry.Opposite(e)); err != api.OK {
		t.Errorf("Check of an entry's opposite: %d", err)
	}
}

// roomy answers the entry with legs that have spare room behind them, and all of that memory.
func roomy(e entry.Entry) (entry.Entry, []leg) {
	all := append(slices.Clone(e.Legs), leg{acc{7, 7, 7}, 7}, leg{acc{8, 8, 8}, 8})
	return entry.Entry{Kind: e.Kind, Legs: all[:len(e.Legs)]}, all
}

func TestP7_3_NothingIsChanged(t *testing.T) {
	unsorted := entry.Entry{2, []leg{{acc{3, 1, 0}, -5}, {acc{2, 1, 0}, 5}}}
	for _, right := range []entry.Entry{wide(2), wide(64), unsorted, {}} {
		e, all := roomy(right)
		before := slices.Clone(all)
		entry.Check(e)
		entry.Write(e)
		entry.Sum(e)
		turned := entry.Opposite(e)
		for i := range turned.Legs {
			turned.Legs[i] = leg{acc{9, 9, 9}, 9}
		}
		_ = append(turned.Legs, leg{acc{9, 9, 9}, 9})
		if !slices.Equal(all, before) {
			t.Errorf("of %v there is %v", right, all)
		}
	}
	path := []int{3, 2, 1, 77, 78}
	for kind := range 8 {
		entry.Make(kind, 5, path[:3], 1)
		entry.Make(kind, 5, path[:2], 9)
	}
	if !slices.Equal(path, []int{3, 2, 1, 77, 78}) {
		t.Errorf("of the path there is %v", path)
	}
}

func TestP7_3_NothingIsKept(t *testing.T) {
	e := wide(5)
	b, _ := entry.Write(e)
	roomy := append(slices.Clone(b), 1, 2, 3)
	before := slices.Clone(roomy)
	one, _ := entry.Read(roomy[:len(b)])
	two, _ := entry.Read(roomy[:len(b)])
	if !bytes.Equal(roomy, before) {
		t.Errorf("Read changed its bytes to %x", roomy)
	}
	clear(roomy)
	one.Legs[0].Amount = 99
	if !reflect.DeepEqual(two, e) {
		t.Errorf("what was read is %v now", two)
	}
	again, _ := entry.Write(e)
	clear(b)
	if !bytes.Equal(again, before[:len(again)]) {
		t.Errorf("what was written is %x now", again)
	}
	path := []int{1, 2}
	made, _ := entry.Make(entry.Hold, 5, path, 0)
	other, _ := entry.Make(entry.Hold, 5, path, 0)
	path[0] = 9
	made.Legs[0].Amount = 6
	if other.Legs[0] != (leg{acc{2, 1, 0}, 5}) {
		t.Errorf("what was made is %v now", other)
	}
	turned := entry.Opposite(e)
	e.Legs[0].Amount = 1000
	if turned.Legs[0].Amount != -1 {
		t.Errorf("the opposite is %v now", turned)
	}
}
