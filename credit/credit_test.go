package credit_test

import (
	"bytes"
	"encoding/binary"
	"fmt"
	"maps"
	"math"
	"math/rand"
	"reflect"
	"slices"
	"testing"

	"purser/api"
	"purser/credit"
	"purser/grant"
)

const (
	maxNumber = 1 << 62
	maxUnits  = 1 << 30
	maxAmount = 1 << 53
)

type (
	session = credit.Session
	one     = grant.Grant
)

// of answers a grant.
func of(group, units, amount int, final bool) one {
	return one{Group: group, Units: units, Amount: amount, Final: final}
}

// four are as many grants as there may be, at their edges.
func four() []one {
	return []one{of(8, maxUnits, maxAmount, true), of(1, 0, 0, true), of(3, 7, 21, false), of(2, maxUnits, 0, false)}
}

// great answers a session at its upper edges.
func great(id int) session {
	return session{Id: id, Node: 32, Number: maxNumber, Deadline: maxNumber, Grants: four()}
}

// small answers a session at its lower edges.
func small(id int) session { return session{Id: id, Node: 1} }

// model is what a table has to tell.
type model struct {
	places, last int
	open         map[int]session
}

func empty(places int) *model { return &model{places: places, open: map[int]session{}} }

func within(n, least, most int) bool { return n >= least && n <= most }

// isSession says whether it is a session.
func isSession(s session) bool {
	fine := within(s.Id, 1, maxNumber) && within(s.Node, 1, 32) && within(s.Number, 0, maxNumber) && within(s.Deadline, 0, maxNumber) && len(s.Grants) <= 4
	groups := map[int]bool{}
	for _, g := range s.Grants {
		fine = fine && within(g.Group, 1, 8) && within(g.Units, 0, maxUnits) && within(g.Amount, 0, maxAmount) && !groups[g.Group]
		groups[g.Group] = true
	}
	return fine
}

func (m *model) add(s session) api.Errno {
	switch {
	case !isSession(s):
		return api.ErrArg
	case s.Id <= m.last:
		return api.ErrStale
	case len(m.open) == m.places:
		return api.ErrFull
	}
	m.open[s.Id], m.last = s, s.Id
	return api.OK
}

func (m *model) set(s session) api.Errno {
	if !isSession(s) {
		return api.ErrArg
	}
	if _, is := m.open[s.Id]; !is {
		return api.ErrMiss
	}
	m.open[s.Id] = s
	return api.OK
}

func (m *model) end(id int) api.Errno {
	if _, is := m.open[id]; !is {
		return api.ErrMiss
	}
	delete(m.open, id)
	return api.OK
}

func (m *model) step(id, number int) api.Errno {
	s, is := m.open[id]
	switch {
	case !is:
		return api.ErrMiss
	case number < 1 || number-1 != s.Number:
		return api.ErrOrder
	}
	return api.OK
}

func (m *model) ids() []int { return slices.Sorted(maps.Keys(m.open)) }

func (m *model) held(node int) int {
	held := 0
	for _, s := range m.open {
		for _, g := range s.Grants {
			if s.Node == node {
				held += g.Amount
			}
		}
	}
	return held
}

// bytes answers the parts of a table.
func (m *model) bytes() []byte {
	b := uints(m.places, m.last, len(m.open))
	for _, id := range m.ids() {
		b = append(b, written(m.open[id])...)
	}
	return b
}

// uints answers counts as bytes.
func uints(l ...int) []byte {
	var b []byte
	for _, n := range l {
		b = binary.AppendUvarint(b, uint64(n))
	}
	return b
}

// written answers the parts of a session, be it one or not.
func written(s session) []byte {
	b := uints(s.Id, s.Node, s.Number, s.Deadline, len(s.Grants))
	for _, g := range s.Grants {
		final := 0
		if g.Final {
			final = 1
		}
		b = append(b, uints(g.Group, g.Units, g.Amount, final)...)
	}
	return b
}

// table answers the bytes of a table, be it one or not.
func table(places, last int, l ...session) []byte {
	b := uints(places, last, len(l))
	for _, s := range l {
		b = append(b, written(s)...)
	}
	return b
}

// same says whether both sessions are alike; no grants are nil or empty.
func same(a, b session) bool {
	return slices.Equal(a.Grants, b.Grants) && a.Id == b.Id && a.Node == b.Node && a.Number == b.Number && a.Deadline == b.Deadline
}

// agree holds that the table tells what the model says.
func agree(t *testing.T, what string, x *credit.Table, m *model) {
	t.Helper()
	if ids := x.Ids(); !slices.Equal(ids, m.ids()) || x.Last() != m.last {
		t.Errorf("%s: Ids %v, Last %d, not %v, %d", what, ids, x.Last(), m.ids(), m.last)
	}
	for id, want := range m.open {
		if s, err := x.Get(id); !same(s, want) || err != api.OK {
			t.Errorf("%s: Get(%d): %+v, %d, not %+v", what, id, s, err, want)
		}
	}
	for node := -1; node <= 34; node++ {
		if held := x.Held(node); held != m.held(node) {
			t.Errorf("%s: Held(%d): %d, not %d", what, node, held, m.held(node))
		}
	}
	if b, err := x.Write(); !bytes.Equal(b, m.bytes()) || err != api.OK {
		t.Errorf("%s: Write: %x, %d, not %x", what, b, err, m.bytes())
	}
}

// made answers a table of so many places, and its model, with these sessions.
func made(t *testing.T, places int, l ...session) (*credit.Table, *model) {
	t.Helper()
	x, err := credit.New(places)
	if x == nil || err != api.OK {
		t.Fatalf("New(%d): %d", places, err)
	}
	m := empty(places)
	for _, s := range l {
		if err := x.Add(s); err != api.OK || m.add(s) != api.OK {
			t.Fatalf("Add(%+v): %d", s, err)
		}
	}
	return x, m
}

// told holds that a call told this error.
func told(t *testing.T, what string, got, want api.Errno) {
	t.Helper()
	if got != want {
		t.Errorf("%s: %d, not %d", what, got, want)
	}
}

// faults answers sessions that are none, each in another way.
func faults(id int) []session {
	var all []session
	spoil := func(change func(s *session)) {
		s := great(id)
		change(&s)
		all = append(all, s)
	}
	for _, n := range []int{-1, maxNumber + 1, math.MinInt, math.MaxInt} {
		spoil(func(s *session) { s.Number = n })
		spoil(func(s *session) { s.Deadline = n })
	}
	for _, n := range []int{-1, 0, 33, math.MinInt, math.MaxInt} {
		spoil(func(s *session) { s.Node = n })
	}
	for i := range 4 {
		for _, n := range []int{-1, 0, 9, math.MinInt, math.MaxInt} {
			spoil(func(s *session) { s.Grants[i].Group = n })
		}
		for _, n := range []int{-1, maxUnits + 1, math.MinInt, math.MaxInt} {
			spoil(func(s *session) { s.Grants[i].Units = n })
		}
		for _, n := range []int{-1, maxAmount + 1, math.MinInt, math.MaxInt} {
			spoil(func(s *session) { s.Grants[i].Amount = n })
		}
		for j := range i {
			spoil(func(s *session) { s.Grants[i].Group = s.Grants[j].Group })
		}
	}
	spoil(func(s *session) { s.Grants = append(s.Grants, one{Group: 5}) })
	spoil(func(s *session) { s.Grants = append(s.Grants, one{Group: 5}, one{Group: 6}) })
	return all
}

// noIds are the Ids of no session.
var noIds = []int{0, -1, maxNumber + 1, math.MinInt, math.MaxInt}

func TestP17_1_TheExample(t *testing.T) {
	x, _ := credit.New(1)
	told(t, "Add of 5", x.Add(small(5)), api.OK)
	told(t, "End of 5", x.End(5), api.OK)
	told(t, "Add of 5 again", x.Add(small(5)), api.ErrStale)
	told(t, "Add of 6", x.Add(small(6)), api.OK)
}

func TestP17_1_Places(t *testing.T) {
	for _, places := range []int{0, 17, -1, math.MinInt, math.MaxInt} {
		if x, err := credit.New(places); x != nil || err != api.ErrArg {
			t.Errorf("New(%d): %v, %d", places, x, err)
		}
	}
	for _, places := range []int{1, 2, 15, 16} {
		x, m := made(t, places)
		agree(t, "New", x, m)
		for id := 1; id <= places; id++ {
			told(t, "Add", x.Add(great(3*id)), m.add(great(3*id)))
		}
		agree(t, "full", x, m)
		told(t, "one more", x.Add(small(1000)), api.ErrFull)
		told(t, "one at Last", x.Add(small(3*places)), api.ErrStale)
		told(t, "one below Last", x.Add(small(1)), api.ErrStale)
		told(t, "none at all", x.Add(small(0)), api.ErrArg)
		for _, s := range faults(1000) {
			told(t, fmt.Sprintf("%+v", s), x.Add(s), api.ErrArg)
		}
		agree(t, "behind what is refused", x, m)
		told(t, "End", x.End(3), m.end(3))
		told(t, "one for one that is over", x.Add(small(1000)), m.add(small(1000)))
		agree(t, "one for another", x, m)
	}
}

func TestP17_1_AddOfSessionsAtTheirEdges(t *testing.T) {
	x, m := made(t, 16)
	for _, s := range []session{
		small(1), {Id: 2, Node: 32}, {Id: 3, Node: 5, Number: maxNumber}, {Id: 4, Node: 5, Deadline: maxNumber}, {Id: 5, Node: 5, Grants: []one{}},
		{Id: 6, Node: 5, Grants: []one{of(1, 0, 0, false)}}, {Id: 7, Node: 5, Grants: []one{of(8, maxUnits, maxAmount, true)}}, great(9), small(maxNumber - 1), great(maxNumber),
	} {
		told(t, fmt.Sprintf("%+v", s), x.Add(s), m.add(s))
		agree(t, fmt.Sprintf("behind %+v", s), x, m)
	}
	if m.last != maxNumber || len(m.open) != 10 {
		t.Error(m)
	}
	told(t, "none behind the greatest", x.Add(small(maxNumber)), api.ErrStale)
}

func TestP17_1_WhatIsNotASession(t *testing.T) {
	x, m := made(t, 2, small(5), great(7))
	// With an Id that is stale, too, and in a full table, it isn't a session first.
	for _, id := range []int{1, 5, 7, 8} {
		for _, s := range faults(id) {
			told(t, fmt.Sprintf("Add(%+v)", s), x.Add(s), api.ErrArg)
			told(t, fmt.Sprintf("Set(%+v)", s), x.Set(s), api.ErrArg)
		}
	}
	for _, id := range noIds {
		told(t, fmt.Sprint("Add of ", id), x.Add(small(id)), api.ErrArg)
		told(t, fmt.Sprint("Set of ", id), x.Set(small(id)), api.ErrArg)
	}
	agree(t, "behind what is refused", x, m)
}

func TestP17_1_WhatIsNotOpen(t *testing.T) {
	x, m := made(t, 3, small(5), great(7), small(9))
	told(t, "End", x.End(7), m.end(7))
	for _, id := range append(noIds, 1, 4, 6, 7, 8, 10, maxNumber) {
		if s, err := x.Get(id); !same(s, session{}) || s.Grants != nil || err != api.ErrMiss {
			t.Errorf("Get(%d): %+v, %d", id, s, err)
		}
		told(t, fmt.Sprint("End of ", id), x.End(id), api.ErrMiss)
		for _, number := range []int{-1, 0, 1, 2, math.MaxInt} {
			told(t, fmt.Sprint("Step of ", id), x.Step(id, number), api.ErrMiss)
		}
		if !slices.Contains(noIds, id) {
			told(t, fmt.Sprint("Set of ", id), x.Set(great(id)), api.ErrMiss)
		}
	}
	agree(t, "behind what is refused", x, m)
}

func TestP17_1_Set(t *testing.T) {
	x, m := made(t, 3, small(5), great(7), small(9))
	for _, id := range []int{7, 5, 9, 5} {
		for _, s := range []session{great(id), small(id), {Id: id, Node: 4, Number: 3, Deadline: 8, Grants: four()[1:3]}} {
			told(t, fmt.Sprintf("Set(%+v)", s), x.Set(s), m.set(s))
			agree(t, fmt.Sprintf("behind %+v", s), x, m)
		}
	}
}

func TestP17_1_Step(t *testing.T) {
	x, m := made(t, 3, small(5), session{Id: 6, Node: 1, Number: 8}, great(7))
	for id, next := range map[int]int{5: 1, 6: 9, 7: maxNumber + 1} {
		for _, number := range []int{math.MinInt, -1, 0, 1, 2, 8, 9, 10, maxNumber, maxNumber + 1, maxNumber + 2, math.MaxInt} {
			want := api.ErrOrder
			if number == next {
				want = api.OK
			}
			told(t, fmt.Sprintf("Step(%d, %d)", id, number), x.Step(id, number), want)
		}
	}
	// It is asked alone.
	agree(t, "behind all steps", x, m)
}

func TestP17_1_Held(t *testing.T) {
	l := []session{{Id: 1, Node: 3, Grants: []one{of(1, 1, 5, false), of(2, 0, 6, true)}}, {Id: 2, Node: 4, Grants: []one{of(1, 9, 70, false)}}, {Id: 3, Node: 3, Grants: []one{of(1, 1, 800, false)}}}
	x, _ := made(t, 16, l...)
	for node, want := range map[int]int{3: 811, 4: 70, 1: 0, 0: 0, -1: 0, 33: 0, math.MinInt: 0, math.MaxInt: 0} {
		if n := x.Held(node); n != want {
			t.Errorf("Held(%d): %d, not %d", node, n, want)
		}
	}
	x.End(1)
	if n := x.Held(3); n != 800 {
		t.Errorf("Held behind an End: %d", n)
	}
	y, _ := made(t, 16)
	for id := 1; id <= 16; id++ {
		y.Add(session{Id: id, Node: 32, Grants: []one{of(1, 0, maxAmount, true), of(2, 0, maxAmount, true), of(3, 0, maxAmount, true), of(4, 0, maxAmount, true)}})
	}
	if n := y.Held(32); n != 1<<59 {
		t.Errorf("Held of all there may be: %d", n)
	}
}

func TestP17_1_Nil(t *testing.T) {
	var x *credit.Table
	for _, n := range []int{math.MinInt, -1, 0, 1, maxNumber, math.MaxInt} {
		told(t, "Add", x.Add(small(n)), api.ErrArg)
		told(t, "Set", x.Set(small(n)), api.ErrArg)
		told(t, "End", x.End(n), api.ErrArg)
		told(t, "Step", x.Step(n, n), api.ErrArg)
		if s, err := x.Get(n); !same(s, session{}) || err != api.ErrArg {
			t.Errorf("Get(%d): %+v, %d", n, s, err)
		}
		if held := x.Held(n); held != 0 {
			t.Errorf("Held(%d): %d", n, held)
		}
	}
	if b, err := x.Write(); len(b) != 0 || err != api.ErrArg || len(x.Ids()) != 0 || x.Last() != 0 {
		t.Errorf("%x, %d, %v, %d", b, err, x.Ids(), x.Last())
	}
}

func TestP17_1_ZeroValueDoesNotPanic(t *testing.T) {
	var x credit.Table
	told(t, "Add", x.Add(small(1)), api.ErrFull)
	told(t, "Set", x.Set(small(1)), api.ErrMiss)
	told(t, "End", x.End(1), api.ErrMiss)
	if len(x.Ids()) != 0 || x.Last() != 0 || x.Held(1) != 0 {
		t.Error("a table of no places has something")
	}
}

// chance answers a session by chance, of few Ids, that mostly is one.
func chance(r *rand.Rand, id int) session {
	pick := func(l ...int) int { return l[r.Intn(len(l))] }
	s := session{Id: id, Node: 1 + r.Intn(4), Number: r.Intn(3), Deadline: r.Intn(9)}
	for _, group := range r.Perm(8)[:r.Intn(5)] {
		s.Grants = append(s.Grants, of(group+1, pick(0, 5, maxUnits), pick(0, 7, maxAmount), r.Intn(2) == 0))
	}
	if r.Intn(20) == 0 {
		all := faults(id)
		s = all[r.Intn(len(all))]
	}
	return s
}

func TestP17_1_AgainstAModel(t *testing.T) {
	seen := map[string]int{}
	for seed := range 60 {
		r := rand.New(rand.NewSource(int64(seed)))
		x, m := made(t, 1+r.Intn(5))
		for range 300 {
			id, number := r.Intn(8)+m.last-5, r.Intn(5)
			s := chance(r, id)
			what, got, want := "", api.OK, api.OK
			switch r.Intn(4) {
			case 0:
				what, got, want = "Add", x.Add(s), m.add(s)
			case 1:
				what, got, want = "Set", x.Set(s), m.set(s)
			case 2:
				what, got, want = "End", x.End(id), m.end(id)
			case 3:
				what, got, want = "Step", x.Step(id, number), m.step(id, number)
			}
			told(t, fmt.Sprintf("seed %d: %s(%+v)", seed, what, s), got, want)
			seen[fmt.Sprint(what, want)]++
			agree(t, fmt.Sprintf("seed %d: %s(%+v)", seed, what, s), x, m)
		}
		if t.Failed() {
			t.FailNow()
		}
	}
	for _, what := range []string{"Add0", "Add1", "Add13", "Add10", "Set0", "Set1", "Set7", "End0", "End7", "Step0", "Step7", "Step15"} {
		if seen[what] < 20 {
			t.Errorf("%s: seen %d times", what, seen[what])
		}
	}
}

func TestP17_2_AnIdNeverOpensAgain(t *testing.T) {
	x, m := made(t, 2)
	for id := 3; id < 30; id += 3 {
		told(t, "Add", x.Add(small(id)), m.add(small(id)))
		for old := 1; old <= id; old++ {
			told(t, fmt.Sprintf("Add of %d behind %d", old, id), x.Add(small(old)), api.ErrStale)
		}
		told(t, "End", x.End(id), m.end(id))
		for old := 1; old <= id; old++ {
			told(t, fmt.Sprintf("Add of %d behind %d's End", old, id), x.Add(small(old)), api.ErrStale)
			told(t, fmt.Sprintf("Set of %d", old), x.Set(small(old)), api.ErrMiss)
		}
		b, _ := x.Write()
		y, err := credit.Read(b)
		told(t, "Read", err, api.OK)
		told(t, "Add behind a Read", y.Add(small(id)), api.ErrStale)
		agree(t, "behind all", x, m)
	}
}

func TestP17_3_Bytes(t *testing.T) {
	x, _ := made(t, 3, small(5), session{Id: 300, Node: 2, Number: 1, Deadline: 9, Grants: []one{of(8, 20, 6, true), of(1, 3, 128, false)}}, small(301))
	x.End(301)
	want := []byte{3, 0xAD, 2, 2, 5, 1, 0, 0, 0, 0xAC, 2, 2, 1, 9, 2, 8, 20, 6, 1, 1, 3, 0x80, 1, 0}
	if b, err := x.Write(); !bytes.Equal(b, want) || err != api.OK {
		t.Errorf("%x, %d, not %x", b, err, want)
	}
}

// back holds that a table comes back from these bytes, as the model is.
func back(t *testing.T, b []byte, m *model) {
	t.Helper()
	x, err := credit.Read(b)
	if x == nil || err != api.OK {
		t.Errorf("Read(%x): %d", b, err)
		return
	}
	agree(t, fmt.Sprintf("Read(%x)", b), x, m)
}

// refused holds that these bytes are no table's.
func refused(t *testing.T, what string, b []byte) {
	t.Helper()
	if x, err := credit.Read(b); x != nil || err != api.ErrForm {
		t.Errorf("%s: Read(%x): %v, %d", what, b, x, err)
	}
}

func TestP17_3_ATableComesBack(t *testing.T) {
	for seed := range 60 {
		r := rand.New(rand.NewSource(int64(seed)))
		x, m := made(t, 1+r.Intn(16))
		for range r.Intn(60) {
			s := chance(r, m.last+1+r.Intn(1<<r.Intn(50)))
			x.Add(s)
			m.add(s)
			if id := m.last - r.Intn(2); r.Intn(3) == 0 {
				x.End(id)
				m.end(id)
			}
		}
		b, err := x.Write()
		told(t, "Write", err, api.OK)
		back(t, b, m)
		y, _ := credit.Read(b)
		// And it goes on as the first one would.
		for range 30 {
			s := chance(r, m.last+r.Intn(4)-1)
			told(t, fmt.Sprintf("Add(%+v)", s), y.Add(s), m.add(s))
		}
		agree(t, "behind a Read", y, m)
	}
}

func TestP17_3_BytesAtTheirEdges(t *testing.T) {
	for _, places := range []int{1, 16} {
		for _, last := range []int{0, 1, maxNumber} {
			back(t, table(places, last), &model{places: places, last: last})
		}
	}
	full, m := []session{}, empty(16)
	for id := 1; id <= 16; id++ {
		full = append(full, great(id*5))
		m.add(great(id * 5))
	}
	back(t, table(16, 80, full...), m)
	m.last = maxNumber
	back(t, table(16, maxNumber, full...), m)
	back(t, table(2, maxNumber, small(1), great(maxNumber)), &model{2, maxNumber, map[int]session{1: small(1), maxNumber: great(maxNumber)}})
}

func TestP17_3_WhatIsNoTable(t *testing.T) {
	refused(t, "nothing", nil)
	refused(t, "nothing", []byte{})
	for _, places := range []int{0, 17, 255, maxNumber, maxNumber + 1, math.MaxInt} {
		refused(t, "places", table(places, 9))
		refused(t, "places", table(places, 9, small(5)))
	}
	refused(t, "Last", table(3, maxNumber+1))
	refused(t, "Last", table(3, maxNumber+1, small(5)))
	refused(t, "Last", table(3, math.MaxInt))
	var l []session
	for id := 1; id <= 17; id++ {
		l = append(l, small(id))
		if id > 1 {
			refused(t, "more sessions than places", table(id-1, 99, l...))
			refused(t, "a session too few", append(uints(16, 99, id), table(16, 99, l[1:]...)[3:]...))
			refused(t, "a session too many", append(uints(16, 99, id-1), table(16, 99, l...)[3:]...))
		}
	}
	for _, n := range []int{18, 128, maxNumber, math.MaxInt} {
		refused(t, "the count of sessions", append(uints(16, 99, n), table(16, 99, l...)[3:]...))
	}
	for _, id := range []int{0, maxNumber + 1, math.MaxInt} {
		refused(t, "an Id", table(3, maxNumber, small(id)))
	}
	for _, s := range faults(5) {
		refused(t, fmt.Sprintf("%+v", s), table(3, 9, s))
		refused(t, fmt.Sprintf("%+v behind another", s), table(3, 9, small(4), s, small(6)))
	}
	five := great(5)
	five.Grants = append(five.Grants, one{Group: 5})
	refused(t, "five grants", table(3, 9, five))
	for _, ids := range [][]int{{5, 5}, {6, 5}, {1, 5, 5}, {1, 6, 5}, {2, 1, 5}, {10}, {5, 10}, {11, 12}, {maxNumber}} {
		var l []session
		for _, id := range ids {
			l = append(l, great(id))
		}
		refused(t, fmt.Sprint(ids), table(3, 9, l...))
	}
	refused(t, "a session, and Last is 0", table(3, 0, small(1)))
}

// parsed answers the model of bytes, if they are a table's.
func parsed(b []byte) (*model, bool) {
	fine := true
	uint := func(most uint64) int {
		n, size := binary.Uvarint(b)
		// The shortest form alone is one.
		if size <= 0 || n > most || !bytes.Equal(binary.AppendUvarint(nil, n), b[:size]) {
			fine, b = false, nil
			return 0
		}
		b = b[size:]
		return int(n)
	}
	m := empty(uint(16))
	last, count := uint(maxNumber), uint(16)
	before := 0
	for range count {
		s := session{Id: uint(maxNumber), Node: uint(maxNumber), Number: uint(maxNumber), Deadline: uint(maxNumber)}
		for range uint(4) {
			s.Grants = append(s.Grants, of(uint(maxNumber), uint(maxNumber), uint(maxNumber), uint(1) == 1))
		}
		fine = fine && isSession(s) && s.Id > before && s.Id <= last
		before = s.Id
		m.open[s.Id] = s
	}
	m.last = last
	return m, fine && len(b) == 0 && m.places > 0 && count <= m.places
}

// reads holds that bytes are read as the model of a reader says.
func reads(t *testing.T, b []byte) bool {
	t.Helper()
	m, fine := parsed(slices.Clone(b))
	if fine {
		back(t, b, m)
	} else {
		refused(t, "no table", b)
	}
	return fine
}

func TestP17_3_EachByteOfATable(t *testing.T) {
	l := []session{small(1), {Id: 200, Node: 2, Number: 1, Deadline: 300, Grants: four()}, great(201)}
	b := table(3, 205, l...)
	if !reads(t, b) {
		t.Fatal("it isn't a table")
	}
	for n := range b {
		refused(t, "cut short", b[:n])
		for c := range 256 {
			spoilt := slices.Clone(b)
			spoilt[n] = byte(c)
			reads(t, spoilt)
			reads(t, slices.Insert(slices.Clone(b), n, byte(c)))
		}
		reads(t, slices.Delete(slices.Clone(b), n, n+1))
	}
	for c := range 256 {
		refused(t, "one behind it", append(slices.Clone(b), byte(c)))
	}
}

func TestP17_3_AllShortBytes(t *testing.T) {
	fine := 0
	for _, first := range []byte{0, 1, 2, 16, 17, 128} {
		for n := range 1 << 16 {
			if reads(t, []byte{first, byte(n), byte(n >> 8)}) {
				fine++
			}
		}
	}
	// Each of three counts of places, with each Last of one byte, and no session.
	if fine != 3*128 {
		t.Error(fine)
	}
}

func TestP17_4_WhatIsHandedInIsNotKeptOrChanged(t *testing.T) {
	room := append(make([]one, 0, 8), four()...)
	s := session{Id: 5, Node: 2, Grants: room}
	x, m := made(t, 3)
	m.open[5], m.last = session{Id: 5, Node: 2, Grants: four()}, 5
	x.Add(s)
	if !slices.Equal(room[:8], append(four(), make([]one, 4)...)) {
		t.Error("Add has changed its argument")
	}
	clear(room)
	agree(t, "Add, and what was handed in is changed", x, m)
	copy(room, four())
	x.Set(s)
	if !slices.Equal(room[:8], append(four(), make([]one, 4)...)) {
		t.Error("Set has changed its argument")
	}
	clear(room)
	agree(t, "Set, and what was handed in is changed", x, m)
	b, _ := x.Write()
	kept := slices.Clone(b)
	y, _ := credit.Read(b)
	if !bytes.Equal(b, kept) {
		t.Error("Read has changed its argument")
	}
	clear(b)
	agree(t, "Read, and what was handed in is changed", y, m)
}

func TestP17_4_AnswersAreNewMemory(t *testing.T) {
	x, m := made(t, 3, session{Id: 5, Node: 2, Grants: four()}, great(6), great(7))
	for range 2 {
		s, _ := x.Get(6)
		again, _ := x.Get(6)
		clear(s.Grants[:cap(s.Grants)])
		if !reflect.DeepEqual(again, great(6)) {
			t.Error("two answers share memory")
		}
		ids := x.Ids()
		clear(ids[:cap(ids)])
		b, _ := x.Write()
		clear(b[:cap(b)])
		agree(t, "behind changed answers", x, m)
	}
	s, _ := x.Get(5)
	x.Set(small(5))
	x.End(6)
	if !slices.Equal(s.Grants, four()) {
		t.Error("an answer has changed")
	}
}
