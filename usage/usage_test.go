package usage_test

import (
	"bytes"
	"cmp"
	"encoding/binary"
	"fmt"
	"maps"
	"math"
	"math/big"
	"math/rand"
	"slices"
	"testing"

	"purser/api"
	"purser/usage"
)

const (
	maxRows   = 4096
	maxBlocks = 1 << 40
	maxPrice  = 1 << 20
)

// line answers a line.
func line(tier, blocks, price int) api.Line {
	return api.Line{Tier: tier, Blocks: blocks, Price: price}
}

// of answers a row.
func of(period, node, group, tier, price, blocks int) usage.Row {
	return usage.Row{Period: period, Node: node, Group: group, Tier: tier, Price: price, Blocks: blocks}
}

// place is where lines are put.
type place struct{ period, node, group int }

// here is some place.
var here = place{3, 7, 2}

// at answers the row of a line at a place.
func (p place) at(l api.Line) usage.Row {
	return of(p.period, p.node, p.group, l.Tier, l.Price, l.Blocks)
}

// bare answers a row without its Blocks: a sheet has at most one of each of these.
func bare(r usage.Row) usage.Row {
	r.Blocks = 0
	return r
}

func within(n, least, most int) bool { return n >= least && n <= most }

// isRow says whether it is a row.
func isRow(r usage.Row) bool {
	return within(r.Period, 0, 31) && within(r.Node, 1, 32) && within(r.Group, 1, 8) &&
		within(r.Tier, 0, 5) && within(r.Price, 0, maxPrice) && within(r.Blocks, 1, maxBlocks)
}

// compare answers the order of rows.
func compare(a, b usage.Row) int {
	return slices.Compare([]int{a.Period, a.Node, a.Group, a.Tier, a.Price}, []int{b.Period, b.Node, b.Group, b.Tier, b.Price})
}

// model is what a sheet has to tell: blocks by the rows without them.
type model map[usage.Row]int

// together answers the rows of lines at a place; false, if there can't be one.
func together(p place, l []api.Line) (map[usage.Row]int, bool) {
	sums := map[usage.Row]*big.Int{}
	for _, l := range l {
		r := bare(p.at(l))
		sums[r] = new(big.Int).Add(big.NewInt(int64(l.Blocks)), cmp.Or(sums[r], new(big.Int)))
	}
	rows, fine := map[usage.Row]int{}, isRow(p.at(line(0, 1, 0)))
	for r, sum := range sums {
		r.Blocks = 1
		if sum.Sign() != 0 {
			r.Blocks = int(sum.Int64())
			rows[bare(r)] = r.Blocks
		}
		fine = fine && sum.IsInt64() && isRow(r)
	}
	return rows, fine
}

func (m model) add(p place, l []api.Line) api.Errno {
	rows, fine := together(p, l)
	if !fine {
		return api.ErrArg
	}
	behind := maps.Clone(m)
	for r, blocks := range rows {
		behind[r] += blocks
		if behind[r] > maxBlocks {
			return api.ErrOver
		}
	}
	if len(behind) > maxRows {
		return api.ErrFull
	}
	maps.Copy(m, behind)
	return api.OK
}

func (m model) take(p place, l []api.Line) api.Errno {
	rows, fine := together(p, l)
	if !fine {
		return api.ErrArg
	}
	for r, blocks := range rows {
		if m[r] < blocks {
			return api.ErrFalse
		}
	}
	for r, blocks := range rows {
		m[r] -= blocks
		if m[r] == 0 {
			delete(m, r)
		}
	}
	return api.OK
}

// rows answers the rows that are kept, in order.
func (m model) rows(kept func(r usage.Row) bool) []usage.Row {
	var all []usage.Row
	for r, blocks := range m {
		r.Blocks = blocks
		if kept(r) {
			all = append(all, r)
		}
	}
	slices.SortFunc(all, compare)
	return all
}

// position answers how many blocks there are at a place.
func (m model) position(p place) int {
	n := 0
	for r, blocks := range m {
		if (place{r.Period, r.Node, r.Group}) == p {
			n += blocks
		}
	}
	return n
}

// all keeps each row.
func all(usage.Row) bool { return true }

// uints answers counts as bytes.
func uints(l ...int) []byte {
	var b []byte
	for _, n := range l {
		b = binary.AppendUvarint(b, uint64(n))
	}
	return b
}

// sheet answers the bytes of a sheet, be it one or not.
func sheet(l ...usage.Row) []byte {
	b := uints(len(l))
	for _, r := range l {
		b = append(b, uints(r.Period, r.Node, r.Group, r.Tier, r.Price, r.Blocks)...)
	}
	return b
}

// nodes are all nodes.
func nodes() []int {
	var l []int
	for node := 1; node <= 32; node++ {
		l = append(l, node)
	}
	return l
}

// agree holds that the sheet tells what the model says.
func agree(t *testing.T, what string, s *usage.Sheet, m model) {
	t.Helper()
	if s.Len() != len(m) {
		t.Errorf("%s: Len: %d, not %d", what, s.Len(), len(m))
	}
	want := sheet(m.rows(all)...)
	if b, err := s.Write(); !bytes.Equal(b, want) || err != api.OK {
		t.Errorf("%s: Write: %x, %d, not %x", what, b, err, want)
	}
	for period := -1; period <= 32; period++ {
		want := m.rows(func(r usage.Row) bool { return r.Period == period })
		if l := s.Rows(period, nodes()); !slices.Equal(l, want) {
			t.Errorf("%s: Rows(%d, all): %v, not %v", what, period, l, want)
		}
	}
	for n, r := range m.rows(all) {
		p := place{r.Period, r.Node, r.Group}
		if got := s.Position(p.period, p.node, p.group); got != m.position(p) {
			t.Errorf("%s: Position%v: %d, not %d", what, p, got, m.position(p))
		}
		if n > 20 {
			break
		}
	}
}

// told holds that a call told this error.
func told(t *testing.T, what string, got, want api.Errno) {
	t.Helper()
	if got != want {
		t.Errorf("%s: %d, not %d", what, got, want)
	}
}

// add puts lines at a place, and holds that the answer and the sheet behind it are as the model says.
func add(t *testing.T, s *usage.Sheet, m model, p place, l ...api.Line) api.Errno {
	t.Helper()
	err := s.Add(p.period, p.node, p.group, l)
	told(t, fmt.Sprintf("Add(%v, %v)", p, l), err, m.add(p, l))
	agree(t, fmt.Sprintf("behind Add(%v, %v)", p, l), s, m)
	return err
}

// take takes lines off, and holds the same.
func take(t *testing.T, s *usage.Sheet, m model, p place, l ...api.Line) api.Errno {
	t.Helper()
	err := s.Take(p.period, p.node, p.group, l)
	told(t, fmt.Sprintf("Take(%v, %v)", p, l), err, m.take(p, l))
	agree(t, fmt.Sprintf("behind Take(%v, %v)", p, l), s, m)
	return err
}

// beyond answers numbers outside these edges.
func beyond(least, most int) []int {
	return []int{least - 1, most + 1, math.MinInt, math.MaxInt}
}

// noPlaces answers places where no row can be.
func noPlaces() []place {
	var l []place
	for _, n := range beyond(0, 31) {
		l = append(l, place{n, 7, 2})
	}
	for _, n := range beyond(1, 32) {
		l = append(l, place{3, n, 2})
	}
	for _, n := range beyond(1, 8) {
		l = append(l, place{3, 7, n})
	}
	return append(l, place{32, 33, 9}, place{})
}

// noLines answers lines of which no row can be, anywhere.
func noLines() []api.Line {
	var l []api.Line
	for _, blocks := range []int{0, 1, maxBlocks} {
		for _, n := range beyond(0, 5) {
			l = append(l, line(n, blocks, 5))
		}
		for _, n := range beyond(0, maxPrice) {
			l = append(l, line(2, blocks, n))
		}
	}
	for _, n := range beyond(0, maxBlocks) {
		l = append(l, line(2, n, 5))
	}
	return append(l, line(-1, -1, -1), line(6, maxBlocks+1, maxPrice+1))
}

func TestP20_1_TheExample(t *testing.T) {
	s := usage.New()
	l := []api.Line{line(0, 2, 5)}
	told(t, "Add", s.Add(0, 3, 1, l), api.OK)
	told(t, "Add again", s.Add(0, 3, 1, l), api.OK)
	rows := s.Rows(0, []int{3})
	if n, ok := usage.Amount(rows); !slices.Equal(rows, []usage.Row{of(0, 3, 1, 0, 5, 4)}) || s.Position(0, 3, 1) != 4 || n != 20 || !ok {
		t.Error(rows, s.Position(0, 3, 1), n, ok)
	}
}

func TestP20_1_RowsAtTheirEdges(t *testing.T) {
	s, m := usage.New(), model{}
	agree(t, "New", s, m)
	for _, p := range []place{{0, 1, 1}, {31, 32, 8}, {0, 32, 1}, {31, 1, 8}, {0, 1, 8}, {15, 16, 4}} {
		for _, l := range []api.Line{line(0, 1, 0), line(5, maxBlocks, maxPrice), line(5, 1, 0), line(0, maxBlocks, 1), line(0, 1, maxPrice), line(3, 7, 9)} {
			told(t, "a row at its edges", add(t, s, m, p, l), api.OK)
		}
	}
	if s.Len() != 36 {
		t.Error(s.Len())
	}
	for r, blocks := range maps.Clone(m) {
		told(t, "a row at its edges", take(t, s, m, place{r.Period, r.Node, r.Group}, line(r.Tier, blocks, r.Price)), api.OK)
	}
	if s.Len() != 0 {
		t.Error(s.Len())
	}
}

func TestP20_1_WhatCannotBeARow(t *testing.T) {
	s, m := usage.New(), model{}
	add(t, s, m, here, line(2, 9, 5), line(2, 9, 6))
	for _, p := range noPlaces() {
		// Whatever the lines are, even none.
		for _, l := range [][]api.Line{nil, {}, {line(2, 1, 5)}, {line(2, 0, 5)}, {line(2, 1, 5), line(2, -1, 5)}} {
			told(t, "an Add where no row can be", add(t, s, m, p, l...), api.ErrArg)
			told(t, "a Take where no row can be", take(t, s, m, p, l...), api.ErrArg)
		}
	}
	fine := line(2, 1, 6)
	for _, l := range noLines() {
		for _, l := range [][]api.Line{{l}, {fine, l}, {l, fine}, {fine, line(2, 1, 7), l}} {
			told(t, "an Add of no row", add(t, s, m, here, l...), api.ErrArg)
			told(t, "a Take of no row", take(t, s, m, here, l...), api.ErrArg)
		}
	}
}

func TestP20_1_NoLinesAndNoBlocks(t *testing.T) {
	s, m := usage.New(), model{}
	for range 2 {
		for _, l := range [][]api.Line{nil, {}, {line(0, 0, 0)}, {line(5, 0, maxPrice)}, {line(2, 0, 5), line(2, 0, 6)}, {line(2, 4, 5), line(2, -4, 5)}, {line(2, math.MinInt, 5), line(2, 1, 5), line(2, math.MaxInt, 5)}} {
			for _, p := range []place{here, {0, 1, 1}, {31, 32, 8}} {
				told(t, "Add", add(t, s, m, p, l...), api.OK)
				told(t, "Take", take(t, s, m, p, l...), api.OK)
			}
		}
		// Then once more, where there is a row of one of them.
		add(t, s, m, here, line(2, 3, 5))
	}
	told(t, "blocks, and none", add(t, s, m, here, line(2, 0, 6), line(2, 1, 7), line(2, 0, 8)), api.OK)
	told(t, "blocks, and none", take(t, s, m, here, line(2, 0, 6), line(2, 1, 7), line(2, 0, 8)), api.OK)
	if s.Len() != 1 || s.Position(3, 7, 2) != 6 {
		t.Error(s.Len(), s.Position(3, 7, 2))
	}
}

func TestP20_1_LinesComeTogether(t *testing.T) {
	s, m := usage.New(), model{}
	told(t, "one row of three lines", add(t, s, m, here, line(2, 4, 5), line(2, 5, 5), line(2, -2, 5)), api.OK)
	told(t, "one of a line ahead and one behind", add(t, s, m, here, line(2, 1, 5), line(1, 1, 5), line(2, 1, 5), line(2, 1, 4)), api.OK)
	if want := []usage.Row{of(3, 7, 2, 1, 5, 1), of(3, 7, 2, 2, 4, 1), of(3, 7, 2, 2, 5, 9)}; !slices.Equal(s.Rows(3, []int{7}), want) {
		t.Error(s.Rows(3, []int{7}))
	}
	told(t, "lines below 0 that come to some", take(t, s, m, here, line(2, -1, 5), line(2, 10, 5)), api.OK)
	if s.Position(3, 7, 2) != 2 {
		t.Error(s.Position(3, 7, 2))
	}
	for _, l := range [][]api.Line{
		{line(2, 4, 5), line(2, -5, 5)},
		{line(2, math.MaxInt, 5), line(2, 1, 5)},
		{line(2, math.MinInt, 5), line(2, -1, 5)},
		{line(2, math.MaxInt, 5), line(2, math.MaxInt, 5), line(2, 3, 5)},
		{line(2, maxBlocks, 5), line(2, 1, 5)},
		{line(2, 1, 4), line(2, maxBlocks, 5), line(1, 1, 5), line(2, 1, 5)},
		{line(6, 4, 5), line(6, -4, 5)},
		{line(2, 4, maxPrice+1), line(2, -4, maxPrice+1)},
		{line(-1, 4, 5), line(-1, -4, 5)},
	} {
		told(t, "Add of lines that make no row", add(t, s, m, here, l...), api.ErrArg)
		told(t, "Take of lines that make no row", take(t, s, m, here, l...), api.ErrArg)
	}
	told(t, "a sum that is no int on the way", add(t, s, m, here, line(2, math.MaxInt, 5), line(2, 3, 5), line(2, -math.MaxInt, 5)), api.OK)
	told(t, "as many as can be", add(t, s, m, here, line(3, maxBlocks, 5), line(3, 1, 5), line(3, -1, 5)), api.OK)
}

func TestP20_1_BlocksAtTheirLimit(t *testing.T) {
	s, m := usage.New(), model{}
	told(t, "one more at once", add(t, s, m, here, line(2, maxBlocks+1, 5)), api.ErrArg)
	told(t, "as many at once", add(t, s, m, here, line(2, maxBlocks, 5)), api.OK)
	for _, n := range []int{1, 2, maxBlocks} {
		told(t, "more behind", add(t, s, m, here, line(2, n, 5)), api.ErrOver)
	}
	told(t, "none behind", add(t, s, m, here, line(2, 0, 5)), api.OK)
	told(t, "one at another price", add(t, s, m, here, line(2, 1, 6)), api.OK)
	told(t, "all but one", add(t, s, m, here, line(1, maxBlocks-1, 6)), api.OK)
	told(t, "two behind", add(t, s, m, here, line(1, 2, 6)), api.ErrOver)
	told(t, "one behind", add(t, s, m, here, line(1, 1, 6)), api.OK)
	told(t, "one behind", add(t, s, m, here, line(1, 1, 6)), api.ErrOver)
	for _, p := range []place{{2, 7, 2}, {3, 8, 2}, {3, 7, 3}} {
		told(t, "elsewhere", add(t, s, m, p, line(2, maxBlocks, 5)), api.OK)
	}
	told(t, "one off", take(t, s, m, here, line(1, 1, 6)), api.OK)
	told(t, "and one behind", add(t, s, m, here, line(1, 1, 6)), api.OK)
}

// full answers a sheet with so many rows, and its model: a row of each price at here.
func full(t *testing.T, rows int) (*usage.Sheet, model) {
	t.Helper()
	s, m := usage.New(), model{}
	var l []api.Line
	for price := range rows {
		l = append(l, line(2, 3, price))
	}
	told(t, "so many rows", add(t, s, m, here, l...), api.OK)
	return s, m
}

func TestP20_1_RowsAtTheirLimit(t *testing.T) {
	s, m := full(t, maxRows-1)
	told(t, "two more", add(t, s, m, here, line(1, 1, 5), line(1, 1, 6)), api.ErrFull)
	told(t, "two more, one of which is there", add(t, s, m, here, line(1, 1, 5), line(2, 1, 5), line(3, 1, 6)), api.ErrFull)
	told(t, "the last one, and one that is there", add(t, s, m, here, line(1, 1, 5), line(2, 1, 5)), api.OK)
	for _, l := range []api.Line{line(2, 1, maxRows), line(0, 1, 0), line(5, maxBlocks, maxPrice)} {
		told(t, "one more", add(t, s, m, here, l), api.ErrFull)
		told(t, "one more elsewhere", add(t, s, m, place{0, 1, 1}, l), api.ErrFull)
		told(t, "one more, and one that is there", add(t, s, m, here, line(2, 1, 0), l), api.ErrFull)
	}
	told(t, "one that is there", add(t, s, m, here, line(2, 1, 0)), api.OK)
	told(t, "one more of no blocks", add(t, s, m, here, line(4, 0, 0)), api.OK)
	told(t, "no lines", add(t, s, m, here), api.OK)
	told(t, "one off", take(t, s, m, here, line(2, 3, 700)), api.OK)
	told(t, "one for another", add(t, s, m, place{0, 1, 1}, line(0, 1, 0)), api.OK)
	told(t, "one more", add(t, s, m, place{31, 32, 8}, line(0, 1, 0)), api.ErrFull)
	var l []api.Line
	for price := range maxRows + 1 {
		l = append(l, line(2, 1, price))
	}
	s, m = usage.New(), model{}
	told(t, "one too many at once", add(t, s, m, here, l...), api.ErrFull)
	told(t, "as many at once", add(t, s, m, here, l[1:]...), api.OK)
}

func TestP20_1_TwoThingsWrongAtOnce(t *testing.T) {
	s, m := full(t, maxRows)
	told(t, "as many as can be", add(t, s, m, here, line(2, maxBlocks-3, 9)), api.OK)
	no, over, fresh := line(2, 1, -1), line(2, 1, 9), line(1, 1, 0)
	late := line(6, 1, 0)
	for _, l := range [][]api.Line{{no, over}, {over, late}, {fresh, late}, {no, fresh}, {over, fresh, late}, {no, over, fresh}} {
		told(t, "no row first", add(t, s, m, here, l...), api.ErrArg)
		told(t, "no row here first", add(t, s, m, place{3, 7, 9}, l...), api.ErrArg)
	}
	told(t, "too many blocks ahead of too many rows", add(t, s, m, here, over, fresh), api.ErrOver)
	told(t, "too many blocks ahead of too many rows", add(t, s, m, here, line(5, 1, 0), over), api.ErrOver)
	told(t, "too many blocks", add(t, s, m, here, over, line(2, 1, 10)), api.ErrOver)
	told(t, "too many rows", add(t, s, m, here, fresh, line(2, 1, 10)), api.ErrFull)
	told(t, "more than there are blocks", take(t, s, m, here, line(2, maxBlocks, 8), line(2, 1, 9)), api.ErrFalse)
	told(t, "no row first", take(t, s, m, here, line(2, 4, 8), no), api.ErrArg)
	told(t, "no row first", take(t, s, m, here, fresh, late), api.ErrArg)
	told(t, "no row first", take(t, s, m, here, line(2, maxBlocks+1, 8)), api.ErrArg)
	told(t, "no row here first", take(t, s, m, place{32, 7, 2}, fresh), api.ErrArg)
}

func TestP20_1_Take(t *testing.T) {
	s, m := usage.New(), model{}
	add(t, s, m, here, line(2, 9, 5), line(2, 4, 6), line(3, maxBlocks, 0))
	told(t, "one more than there are", take(t, s, m, here, line(2, 10, 5)), api.ErrFalse)
	told(t, "all but one", take(t, s, m, here, line(2, 8, 5)), api.OK)
	told(t, "two of one", take(t, s, m, here, line(2, 2, 5)), api.ErrFalse)
	told(t, "the last one", take(t, s, m, here, line(2, 1, 5)), api.OK)
	if s.Len() != 2 {
		t.Error("a row without blocks is there still")
	}
	told(t, "a row that is gone", take(t, s, m, here, line(2, 1, 5)), api.ErrFalse)
	told(t, "none of a row that is gone", take(t, s, m, here, line(2, 0, 5)), api.OK)
	told(t, "one that wasn't there", take(t, s, m, here, line(2, 1, 7)), api.ErrFalse)
	for _, p := range []place{{2, 7, 2}, {4, 7, 2}, {3, 6, 2}, {3, 8, 2}, {3, 7, 1}, {3, 7, 3}} {
		told(t, "elsewhere", take(t, s, m, p, line(2, 1, 6)), api.ErrFalse)
	}
	told(t, "another tier", take(t, s, m, here, line(1, 1, 6)), api.ErrFalse)
	told(t, "all", take(t, s, m, here, line(3, maxBlocks, 0), line(2, 4, 6)), api.OK)
	told(t, "none of none", take(t, s, m, here), api.OK)
	told(t, "one of none", take(t, s, m, here, line(2, 1, 6)), api.ErrFalse)
}

func TestP20_1_ALaterLineIsRefused(t *testing.T) {
	s, m := usage.New(), model{}
	add(t, s, m, here, line(2, 9, 5), line(2, 4, 6), line(3, maxBlocks, 0))
	told(t, "Add", add(t, s, m, here, line(2, 1, 4), line(2, 1, 5), line(3, 1, 0)), api.ErrOver)
	told(t, "Add", add(t, s, m, here, line(2, 1, 5), line(2, 1, 6), line(5, 1, -1)), api.ErrArg)
	told(t, "Take", take(t, s, m, here, line(2, 9, 5), line(2, 4, 6), line(4, 1, 0)), api.ErrFalse)
	told(t, "Take", take(t, s, m, here, line(2, 9, 5), line(2, 5, 6)), api.ErrFalse)
	told(t, "Take", take(t, s, m, here, line(2, 9, 5), line(2, 4, 6), line(3, maxBlocks, 0), line(6, 1, 0)), api.ErrArg)
	told(t, "Take of lines that are too many together", take(t, s, m, here, line(2, 5, 5), line(2, 5, 5)), api.ErrFalse)
}

func TestP20_1_Rows(t *testing.T) {
	s, m := usage.New(), model{}
	for _, p := range []place{{1, 4, 2}, {0, 9, 1}, {1, 4, 1}, {1, 2, 8}, {1, 32, 1}, {2, 4, 1}, {0, 4, 1}, {1, 1, 1}} {
		add(t, s, m, p, line(5, 1, 0), line(0, 2, 7), line(0, 3, 6))
	}
	node := func(period, node, group int) []usage.Row {
		return []usage.Row{of(period, node, group, 0, 6, 3), of(period, node, group, 0, 7, 2), of(period, node, group, 5, 0, 1)}
	}
	four := slices.Concat(node(1, 4, 1), node(1, 4, 2))
	for _, one := range []struct {
		period int
		nodes  []int
		want   []usage.Row
	}{
		{1, nil, nil},
		{1, []int{}, nil},
		{1, []int{4}, four},
		{1, []int{4, 4}, four},
		{1, []int{4, 2, 4}, slices.Concat(node(1, 2, 8), four)},
		{1, []int{32, 4, 1}, slices.Concat(node(1, 1, 1), four, node(1, 32, 1))},
		{1, []int{3}, nil},
		{1, []int{0, -1, 33, math.MinInt, math.MaxInt}, nil},
		{1, []int{0, 33, 4, math.MaxInt}, four},
		{0, []int{1, 2, 4}, node(0, 4, 1)},
		{0, []int{9, 4}, slices.Concat(node(0, 4, 1), node(0, 9, 1))},
		{2, nodes(), node(2, 4, 1)},
		{3, nodes(), nil},
		{-1, nodes(), nil},
		{32, nodes(), nil},
		{math.MinInt, nodes(), nil},
		{math.MaxInt, nodes(), nil},
	} {
		if l := s.Rows(one.period, one.nodes); !slices.Equal(l, one.want) {
			t.Errorf("Rows(%d, %v): %v, not %v", one.period, one.nodes, l, one.want)
		}
	}
	agree(t, "behind all Rows", s, m)
}

func TestP20_1_Position(t *testing.T) {
	s, m := usage.New(), model{}
	add(t, s, m, here, line(0, 1, 0), line(5, 20, 7), line(5, 300, 8))
	for n, p := range []place{{2, 7, 2}, {3, 6, 2}, {3, 7, 1}, {4, 7, 2}, {3, 8, 2}, {3, 7, 3}} {
		add(t, s, m, p, line(0, 1000<<n, 0))
		if got := s.Position(p.period, p.node, p.group); got != 1000<<n {
			t.Errorf("Position%v: %d", p, got)
		}
	}
	if n := s.Position(3, 7, 2); n != 321 {
		t.Error(n)
	}
	for _, p := range append(noPlaces(), place{0, 1, 1}, place{3, 2, 7}) {
		if n := s.Position(p.period, p.node, p.group); n != 0 {
			t.Errorf("Position%v: %d", p, n)
		}
	}
	var l []api.Line
	for price := range maxRows {
		l = append(l, line(2, maxBlocks, price))
	}
	s = usage.New()
	told(t, "Add of all there can be", s.Add(31, 32, 8, l), api.OK)
	if n := s.Position(31, 32, 8); n != 1<<52 {
		t.Error(n)
	}
}

func TestP20_1_Amount(t *testing.T) {
	row := func(blocks, price int) usage.Row { return of(1, 2, 3, 4, price, blocks) }
	most := row(1<<40, 1<<20)
	for _, one := range []struct {
		rows []usage.Row
		want int
		ok   bool
	}{
		{nil, 0, true},
		{[]usage.Row{}, 0, true},
		{[]usage.Row{row(4, 5)}, 20, true},
		{[]usage.Row{row(4, 5), row(1, 7), row(9, 0)}, 27, true},
		{[]usage.Row{most}, 1 << 60, true},
		{[]usage.Row{most, most, most, most, most, most, most}, 7 << 60, true},
		{[]usage.Row{most, most, most, most, most, most, most, most}, 0, false},
		{[]usage.Row{most, most, most, most, most, most, most, row(1<<40-1, 1<<20), row(1<<20-1, 1)}, math.MaxInt, true},
		{[]usage.Row{most, most, most, most, most, most, most, row(1<<40-1, 1<<20), row(1<<20, 1)}, 0, false},
		{[]usage.Row{row(1<<32, 1<<31)}, 0, false},
		{[]usage.Row{row(1, 1), row(1<<32, 1<<31), row(-1<<32, 1<<31)}, 0, false},
		// They needn't be rows of a sheet.
		{[]usage.Row{row(-4, 5), row(1, 7)}, -13, true},
		{[]usage.Row{row(4, -5)}, -20, true},
		{[]usage.Row{row(math.MaxInt, 1), row(1, 1), row(-1, 1)}, math.MaxInt, true},
		{[]usage.Row{row(math.MaxInt, 1), row(1, 1)}, 0, false},
		{[]usage.Row{row(math.MinInt, 1)}, math.MinInt, true},
		{[]usage.Row{row(math.MinInt, -1)}, 0, false},
		{[]usage.Row{of(-1, 99, -1, 99, 3, 2), of(-1, 99, -1, 99, 3, 2)}, 12, true},
	} {
		if n, ok := usage.Amount(one.rows); n != one.want || ok != one.ok {
			t.Errorf("Amount(%v): %d, %v, not %d, %v", one.rows, n, ok, one.want, one.ok)
		}
	}
}

func TestP20_1_Nil(t *testing.T) {
	var s *usage.Sheet
	for _, n := range []int{math.MinInt, -1, 0, 1, math.MaxInt} {
		for _, l := range [][]api.Line{nil, {line(0, 1, 0)}, {line(n, n, n)}} {
			told(t, "Add", s.Add(n, n, n, l), api.ErrArg)
			told(t, "Take", s.Take(n, n, n, l), api.ErrArg)
		}
		if l := s.Rows(n, []int{n}); len(l) != 0 || s.Position(n, n, n) != 0 {
			t.Error(l, s.Position(n, n, n))
		}
	}
	told(t, "Add where a row can be", s.Add(0, 1, 1, []api.Line{line(0, 1, 0)}), api.ErrArg)
	told(t, "Take of nothing", s.Take(0, 1, 1, nil), api.ErrArg)
	if b, err := s.Write(); len(b) != 0 || err != api.ErrArg || s.Len() != 0 {
		t.Error(b, err, s.Len())
	}
}

func TestP20_1_ZeroValueHasNoRows(t *testing.T) {
	s, m := &usage.Sheet{}, model{}
	agree(t, "the zero value", s, m)
	told(t, "Take", take(t, s, m, here, line(2, 1, 5)), api.ErrFalse)
	told(t, "Add", add(t, s, m, here, line(2, 1, 5)), api.OK)
}

func TestP20_1_TwoSheets(t *testing.T) {
	s, m := usage.New(), model{}
	other, n := usage.New(), model{}
	add(t, s, m, here, line(2, 1, 5))
	agree(t, "the other one", other, n)
	add(t, other, n, here, line(2, 7, 5), line(3, 1, 0))
	agree(t, "the first one", s, m)
}

// chance answers a place and lines by chance, that mostly do.
func chance(r *rand.Rand) (place, []api.Line) {
	pick := func(l ...int) int { return l[r.Intn(len(l))] }
	p := place{pick(0, 1, 31), pick(1, 3, 32), pick(1, 8)}
	if r.Intn(30) == 0 {
		all := noPlaces()
		p = all[r.Intn(len(all))]
	}
	var l []api.Line
	for range r.Intn(5) {
		l = append(l, line(pick(0, 1, 5), pick(0, 1, 2, 3, 7, -1, maxBlocks/2, maxBlocks), pick(0, 4, maxPrice)))
	}
	if r.Intn(30) == 0 {
		all := noLines()
		l = append(l, all[r.Intn(len(all))])
	}
	return p, l
}

func TestP20_1_AgainstAModel(t *testing.T) {
	seen := map[string]int{}
	for seed := range 60 {
		r := rand.New(rand.NewSource(int64(seed)))
		s, m := usage.New(), model{}
		for range 200 {
			p, l := chance(r)
			if r.Intn(2) == 0 {
				seen[fmt.Sprintf("Add %d", add(t, s, m, p, l...))]++
			} else {
				seen[fmt.Sprintf("Take %d", take(t, s, m, p, l...))]++
			}
			period, some := r.Intn(2), []int{r.Intn(5), r.Intn(5), 32}[:r.Intn(4)]
			want := m.rows(func(r usage.Row) bool { return r.Period == period && slices.Contains(some, r.Node) })
			if l := s.Rows(period, some); !slices.Equal(l, want) {
				t.Errorf("seed %d: Rows(%d, %v): %v, not %v", seed, period, some, l, want)
			}
		}
		if t.Failed() {
			t.FailNow()
		}
	}
	for _, what := range []string{"Add 0", "Add 1", "Add 6", "Take 0", "Take 1", "Take 20"} {
		if seen[what] < 50 {
			t.Errorf("%s: seen %d times", what, seen[what])
		}
	}
}

func TestP20_2_WhatIsAddedAndTaken(t *testing.T) {
	for seed := range 60 {
		r := rand.New(rand.NewSource(int64(seed)))
		s, m := usage.New(), model{}
		for range 60 {
			p, l := chance(r)
			if s.Add(p.period, p.node, p.group, l) != api.OK {
				continue
			}
			rows, _ := together(p, l)
			agreed := maps.Clone(m)
			m.add(p, l)
			agree(t, "behind Add", s, m)
			// It is taken at once, or row by row: the sheet is as it was.
			if r.Intn(2) == 0 {
				told(t, "Take", s.Take(p.period, p.node, p.group, l), api.OK)
			} else {
				for row, blocks := range rows {
					told(t, "Take of a row", s.Take(p.period, p.node, p.group, []api.Line{line(row.Tier, blocks, row.Price)}), api.OK)
				}
			}
			agree(t, "behind Add and Take", s, agreed)
			told(t, "Add again", s.Add(p.period, p.node, p.group, l), api.OK)
			agree(t, "behind Add again", s, m)
		}
	}
}

func TestP20_2_AllThereCanBe(t *testing.T) {
	s, m := usage.New(), model{}
	var l []api.Line
	for price := range maxRows {
		l = append(l, line(price%6, 1+price, price*200))
	}
	for range 2 {
		told(t, "Add", add(t, s, m, here, l...), api.OK)
		told(t, "Take", take(t, s, m, here, l...), api.OK)
		if b, err := s.Write(); !bytes.Equal(b, []byte{0}) || err != api.OK || s.Len() != 0 {
			t.Errorf("%x, %d, %d", b, err, s.Len())
		}
	}
}

// back holds that a sheet comes back from these bytes, as the model is.
func back(t *testing.T, b []byte, m model) *usage.Sheet {
	t.Helper()
	s, err := usage.Read(b)
	if s == nil || err != api.OK {
		t.Fatalf("Read(%x): %d", b, err)
	}
	agree(t, fmt.Sprintf("Read(%x)", b), s, m)
	return s
}

// refused holds that these bytes are no sheet's.
func refused(t *testing.T, what string, b []byte) {
	t.Helper()
	if s, err := usage.Read(b); s != nil || err != api.ErrForm {
		t.Errorf("%s: Read(%x): %v, %d", what, b, s, err)
	}
}

func TestP20_3_Bytes(t *testing.T) {
	s := usage.New()
	s.Add(1, 3, 2, []api.Line{line(0, 300, 5), line(4, 1, 128)})
	s.Add(0, 32, 8, []api.Line{line(5, 127, 0)})
	s.Add(1, 3, 1, []api.Line{line(1, 2, 9)})
	want := []byte{4, 0, 32, 8, 5, 0, 127, 1, 3, 1, 1, 9, 2, 1, 3, 2, 0, 5, 0xAC, 2, 1, 3, 2, 4, 0x80, 1, 1}
	if b, err := s.Write(); !bytes.Equal(b, want) || err != api.OK {
		t.Errorf("%x, %d, not %x", b, err, want)
	}
	if b, err := usage.New().Write(); !bytes.Equal(b, []byte{0}) || err != api.OK {
		t.Errorf("%x, %d", b, err)
	}
}

func TestP20_3_ASheetComesBack(t *testing.T) {
	for seed := range 40 {
		r := rand.New(rand.NewSource(int64(seed)))
		s, m := usage.New(), model{}
		for range r.Intn(60) {
			p, l := chance(r)
			s.Add(p.period, p.node, p.group, l)
			m.add(p, l)
		}
		b, err := s.Write()
		told(t, "Write", err, api.OK)
		y := back(t, b, m)
		// And it goes on as the first one would.
		for range 30 {
			p, l := chance(r)
			add(t, y, m, p, l...)
			take(t, y, m, p, l...)
		}
	}
}

func TestP20_3_BytesAtTheirEdges(t *testing.T) {
	back(t, sheet(), model{})
	for _, r := range []usage.Row{of(0, 1, 1, 0, 0, 1), of(31, 32, 8, 5, maxPrice, maxBlocks), of(0, 32, 1, 5, 0, maxBlocks), of(31, 1, 8, 0, maxPrice, 1)} {
		back(t, sheet(r), model{bare(r): r.Blocks})
	}
	_, m := full(t, maxRows)
	s := back(t, sheet(m.rows(all)...), m)
	told(t, "one more", add(t, s, m, here, line(0, 1, 0)), api.ErrFull)
	_, m = full(t, maxRows-1)
	s = back(t, sheet(m.rows(all)...), m)
	told(t, "one more", add(t, s, m, here, line(0, 1, 0)), api.OK)
}

// rising are rows of which each is above the one ahead by another of its numbers.
func rising() []usage.Row {
	return []usage.Row{of(1, 3, 4, 5, 9, 7), of(2, 2, 4, 5, 9, 6), of(2, 3, 3, 5, 9, 5), of(2, 3, 4, 4, 9, 4), of(2, 3, 4, 5, 8, 3), of(2, 3, 4, 5, 9, 2)}
}

func TestP20_3_WhatIsNoSheet(t *testing.T) {
	refused(t, "nothing", nil)
	refused(t, "nothing", []byte{})
	l := rising()
	spoil := func(what string, change func(r *usage.Row, n int), numbers []int) {
		for i := range l {
			for _, n := range numbers {
				spoilt := slices.Clone(l)
				change(&spoilt[i], n)
				refused(t, what, sheet(spoilt...))
				refused(t, what, sheet(spoilt[i]))
			}
		}
	}
	great := []int{maxBlocks, maxBlocks + 1, 1 << 62, math.MaxInt}
	spoil("a Period", func(r *usage.Row, n int) { r.Period = n }, append(great, 32, 33))
	spoil("a Node", func(r *usage.Row, n int) { r.Node = n }, append(great, 0, 33))
	spoil("a Group", func(r *usage.Row, n int) { r.Group = n }, append(great, 0, 9))
	spoil("a Tier", func(r *usage.Row, n int) { r.Tier = n }, append(great, 6, 7))
	spoil("a Price", func(r *usage.Row, n int) { r.Price = n }, append(great, maxPrice+1))
	spoil("Blocks", func(r *usage.Row, n int) { r.Blocks = n }, append(great[1:], 0))
	for i := range l {
		for j := range l {
			if i == j {
				continue
			}
			swapped := slices.Clone(l)
			swapped[i], swapped[j] = swapped[j], swapped[i]
			refused(t, "two swapped", sheet(swapped...))
		}
		refused(t, "one twice", sheet(slices.Insert(slices.Clone(l), i, l[i])...))
		again := l[i]
		again.Blocks++
		refused(t, "one twice, of other Blocks", sheet(slices.Insert(slices.Clone(l), i, again)...))
		refused(t, "one twice, of other Blocks", sheet(slices.Insert(slices.Clone(l), i+1, again)...))
	}
	parts := sheet(l...)[1:]
	for _, n := range []int{0, 1, 5, 7, 8, 128, maxRows, maxRows + 1, math.MaxInt} {
		refused(t, "the count of rows", append(uints(n), parts...))
	}
	_, m := full(t, maxRows)
	rows := m.rows(all)
	refused(t, "one row too many", sheet(append(rows, of(31, 1, 1, 1, 1, 1))...))
}

// parsed answers the model of bytes, if they are a sheet's.
func parsed(b []byte) (model, bool) {
	fine := true
	uint := func(most uint64) int {
		n, size := binary.Uvarint(b)
		// The shortest form alone is one.
		if size <= 0 || n > most || !bytes.Equal(binary.AppendUvarint(nil, n), b[:size]) {
			fine, b = false, nil
			return 0
		}
		b = b[size:]
		return int(n)
	}
	m := model{}
	var before usage.Row
	for i := range uint(maxRows) {
		var n [6]int
		for i := range n {
			n[i] = uint(maxBlocks)
		}
		row := of(n[0], n[1], n[2], n[3], n[4], n[5])
		fine = fine && isRow(row) && (i == 0 || compare(before, row) < 0)
		m[bare(row)], before = row.Blocks, row
	}
	return m, fine && len(b) == 0
}

// reads holds that bytes are read as the model of a reader says.
func reads(t *testing.T, b []byte) bool {
	t.Helper()
	m, fine := parsed(slices.Clone(b))
	if fine {
		back(t, b, m)
	} else {
		refused(t, "no sheet", b)
	}
	return fine
}

func TestP20_3_EachByteOfASheet(t *testing.T) {
	b := sheet(append(rising(), of(31, 32, 8, 5, maxPrice, maxBlocks))...)
	if !reads(t, b) {
		t.Fatal("it isn't a sheet")
	}
	for n := range b {
		refused(t, "cut short", b[:n])
		for c := range 256 {
			spoilt := slices.Clone(b)
			spoilt[n] = byte(c)
			reads(t, spoilt)
			reads(t, slices.Insert(slices.Clone(b), n, byte(c)))
		}
		reads(t, slices.Delete(slices.Clone(b), n, n+1))
	}
	for c := range 256 {
		refused(t, "one behind it", append(slices.Clone(b), byte(c)))
	}
}

func TestP20_3_AllShortBytes(t *testing.T) {
	fine := 0
	for first := range 256 {
		if reads(t, []byte{byte(first)}) {
			fine++
		}
		for second := range 256 {
			reads(t, []byte{byte(first), byte(second)})
			if reads(t, []byte{1, byte(first), byte(second), 1, 0, 0, 1}) {
				fine++
			}
		}
	}
	// The one without rows, and each Period with each Node.
	if fine != 1+32*32 {
		t.Error(fine)
	}
}

func TestP20_4_WhatIsHandedInIsNotKeptOrChanged(t *testing.T) {
	s, m := usage.New(), model{}
	l := []api.Line{line(5, 2, 9), line(0, 3, 4), line(5, 1, 9), line(0, 0, 0), line(1, 1, 1)}
	room := append(make([]api.Line, 0, 9), l...)
	hold := func(what string) {
		t.Helper()
		if !slices.Equal(room[:9], append(slices.Clone(l), make([]api.Line, 4)...)) {
			t.Errorf("%s has changed its argument: %v", what, room[:9])
		}
		clear(room)
		agree(t, what+", and what was handed in is changed", s, m)
		copy(room, l)
	}
	s.Add(3, 7, 2, room)
	m.add(here, l)
	hold("Add")
	s.Add(3, 7, 2, append(room[:5:9], line(6, 1, 1)))
	room[:6][5] = api.Line{}
	hold("Add that is refused")
	s.Take(3, 7, 2, room[:4])
	m.take(here, l[:4])
	hold("Take")
	s.Take(3, 7, 2, room)
	hold("Take that is refused")

	asked := append(make([]int, 0, 6), 9, 7, 7, 1)
	rows := s.Rows(3, asked)
	if !slices.Equal(asked[:6], []int{9, 7, 7, 1, 0, 0}) || !slices.Equal(rows, []usage.Row{here.at(line(1, 1, 1))}) {
		t.Error("Rows has changed its argument", asked[:6], rows)
	}
	room2 := append(make([]usage.Row, 0, 4), of(1, 2, 3, 4, 5, 6), of(1, 1, 1, 1, 1, 1))
	usage.Amount(room2)
	if !slices.Equal(room2[:4], []usage.Row{of(1, 2, 3, 4, 5, 6), of(1, 1, 1, 1, 1, 1), {}, {}}) {
		t.Error("Amount has changed its argument")
	}
	b, _ := s.Write()
	kept := slices.Clone(b)
	y, _ := usage.Read(b)
	if !bytes.Equal(b, kept) {
		t.Error("Read has changed its argument")
	}
	clear(b)
	agree(t, "Read, and what was handed in is changed", y, m)
}

func TestP20_4_AnswersAreNewMemory(t *testing.T) {
	s, m := usage.New(), model{}
	add(t, s, m, here, line(0, 3, 4), line(1, 1, 1))
	add(t, s, m, place{3, 8, 2}, line(0, 3, 4))
	for range 2 {
		rows, again := s.Rows(3, []int{7, 8}), s.Rows(3, []int{7, 8})
		clear(rows[:cap(rows)])
		if !slices.Equal(again, m.rows(all)) {
			t.Error("two answers share memory")
		}
		b, _ := s.Write()
		clear(b[:cap(b)])
		agree(t, "behind changed answers", s, m)
	}
	rows := s.Rows(3, []int{7, 8})
	kept := slices.Clone(rows)
	b, _ := s.Write()
	written := slices.Clone(b)
	s.Add(0, 1, 1, []api.Line{line(0, 1, 0)})
	s.Take(3, 7, 2, []api.Line{line(0, 1, 4), line(1, 1, 1)})
	if !slices.Equal(rows, kept) || !bytes.Equal(b, written) {
		t.Error("an answer has changed")
	}
}
