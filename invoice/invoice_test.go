package invoice_test

import (
	"bytes"
	"encoding/binary"
	"fmt"
	"math"
	"math/big"
	"math/rand"
	"reflect"
	"slices"
	"strings"
	"testing"

	"purser/api"
	"purser/entry"
	"purser/invoice"
	"purser/journal"
	"purser/tree"
	"purser/usage"
)

const (
	maxLines  = 4096
	maxBlocks = 1 << 40
	maxPrice  = 1 << 20
)

// of answers a line, whose Amount wraps round if it must.
func of(node, group, tier, price, blocks int) invoice.Line {
	return invoice.Line{Node: node, Group: group, Tier: tier, Price: price, Blocks: blocks, Amount: blocks * price}
}

// most answers a line of the greatest Amount there may be: 2^60.
func most(node, group, tier int) invoice.Line { return of(node, group, tier, maxPrice, maxBlocks) }

func within(n, least, most int) bool { return n >= least && n <= most }

// isRow says whether a line can be a row of a sheet.
func isRow(l invoice.Line) bool {
	return within(l.Node, 1, 32) && within(l.Group, 1, 8) && within(l.Tier, 0, 5) && within(l.Price, 0, maxPrice) && within(l.Blocks, 1, maxBlocks)
}

// compare answers the order of lines.
func compare(a, b invoice.Line) int {
	return slices.Compare([]int{a.Node, a.Group, a.Tier, a.Price}, []int{b.Node, b.Group, b.Tier, b.Price})
}

// sum answers the sum of numbers, if it is an int.
func sum(l []int) (int, bool) {
	all := new(big.Int)
	for _, n := range l {
		all.Add(all, big.NewInt(int64(n)))
	}
	if !all.IsInt64() {
		return 0, false
	}
	return int(all.Int64()), true
}

// reckoned answers the invoice of lines, if what they come to are ints.
func reckoned(node, period int, lines ...invoice.Line) (invoice.Invoice, bool) {
	x, fine := invoice.Invoice{Node: node, Period: period, Lines: lines}, true
	groups, every := map[int][]int{}, []int{}
	for _, l := range lines {
		groups[l.Group] = append(groups[l.Group], l.Amount)
		every = append(every, l.Amount)
	}
	for group := range 9 {
		if amounts, is := groups[group]; is {
			n, ok := sum(amounts)
			x.Parts, fine = append(x.Parts, invoice.Part{Group: group, Amount: n}), fine && ok
		}
	}
	n, ok := sum(every)
	x.Total = n
	return x, fine && ok
}

// made answers the invoice of lines that come to ints.
func made(t *testing.T, node, period int, lines ...invoice.Line) invoice.Invoice {
	t.Helper()
	x, fine := reckoned(node, period, lines...)
	if !fine {
		t.Fatal("the lines don't come to an int")
	}
	return x
}

// same says whether both invoices are alike; no lines and no parts are nil or empty.
func same(a, b invoice.Invoice) bool {
	return a.Node == b.Node && a.Period == b.Period && a.Total == b.Total && slices.Equal(a.Lines, b.Lines) && slices.Equal(a.Parts, b.Parts)
}

// copied answers an invoice that shares nothing with this one.
func copied(x invoice.Invoice) invoice.Invoice {
	x.Lines, x.Parts = slices.Clone(x.Lines), slices.Clone(x.Parts)
	return x
}

// uints answers counts as bytes.
func uints(l ...int) []byte {
	var b []byte
	for _, n := range l {
		b = binary.AppendUvarint(b, uint64(n))
	}
	return b
}

// written answers the bytes of an invoice, be it one or not.
func written(x invoice.Invoice) []byte {
	b := uints(x.Node, x.Period, len(x.Lines))
	for _, l := range x.Lines {
		b = append(b, uints(l.Node, l.Group, l.Tier, l.Price, l.Blocks)...)
	}
	return b
}

// told holds that a call told this error.
func told(t *testing.T, what string, got, want api.Errno) {
	t.Helper()
	if got != want {
		t.Errorf("%s: %d, not %d", what, got, want)
	}
}

// fine holds that it is an invoice, for Check, Write and Read.
func fine(t *testing.T, what string, x invoice.Invoice) {
	t.Helper()
	told(t, what+": Check", invoice.Check(x), api.OK)
	b, err := invoice.Write(x)
	if !bytes.Equal(b, written(x)) || err != api.OK {
		t.Errorf("%s: Write: %x, %d, not %x", what, b, err, written(x))
	}
	if y, err := invoice.Read(written(x)); !same(x, y) || err != api.OK {
		t.Errorf("%s: Read: %+v, %d, not %+v", what, y, err, x)
	}
}

// wrong holds that it is no invoice, for Check and Write.
func wrong(t *testing.T, what string, x invoice.Invoice, want api.Errno) {
	t.Helper()
	told(t, what+": Check", invoice.Check(x), want)
	if b, err := invoice.Write(x); len(b) != 0 || err != want {
		t.Errorf("%s: Write: %x, %d, not %d", what, b, err, want)
	}
}

// refuses holds that Make answers an error, and nothing else.
func refuses(t *testing.T, what string, x *tree.Tree, s *usage.Sheet, node, period int, want api.Errno) {
	t.Helper()
	if got, err := invoice.Make(x, s, node, period); !same(got, invoice.Invoice{}) || err != want {
		t.Errorf("%s: Make(%d, %d): %+v, %d, not %d", what, node, period, got, err, want)
	}
}

// wood answers a tree: 1 over 2 and 5, 2 over 3 and 4, 5 over 6; 7 over 8; 32 alone. 4 and 32 are closed.
func wood(t *testing.T) *tree.Tree {
	t.Helper()
	x := tree.New()
	for _, n := range []tree.Node{
		{Id: 1, Kind: api.Org}, {Id: 2, Parent: 1, Kind: api.Team}, {Id: 3, Parent: 2, Kind: api.Project},
		{Id: 4, Parent: 2, Kind: api.Project, Closed: true}, {Id: 5, Parent: 1, Kind: api.Team}, {Id: 6, Parent: 5, Kind: api.Project},
		{Id: 7, Kind: api.Org}, {Id: 8, Parent: 7, Kind: api.Team}, {Id: 32, Kind: api.Org, Closed: true},
	} {
		if err := x.Put(n); err != api.OK {
			t.Fatal(n, err)
		}
	}
	return x
}

// below is what is below the nodes of the wood.
var below = map[int][]int{1: {1, 2, 3, 4, 5, 6}, 2: {2, 3, 4}, 3: {3}, 4: {4}, 5: {5, 6}, 6: {6}, 7: {7, 8}, 8: {8}, 32: {32}}

// put puts lines to a sheet, at a period.
func put(t *testing.T, s *usage.Sheet, period int, lines ...invoice.Line) {
	t.Helper()
	for _, l := range lines {
		if err := s.Add(period, l.Node, l.Group, []api.Line{{Tier: l.Tier, Blocks: l.Blocks, Price: l.Price}}); err != api.OK {
			t.Fatalf("%+v: %d", l, err)
		}
	}
}

func TestP21_1_TheExample(t *testing.T) {
	s := usage.New()
	put(t, s, 0, of(3, 1, 0, 4, 3))
	x, err := invoice.Make(wood(t), s, 3, 0)
	want := invoice.Invoice{Node: 3, Total: 12, Lines: []invoice.Line{{Node: 3, Group: 1, Price: 4, Blocks: 3, Amount: 12}}, Parts: []invoice.Part{{Group: 1, Amount: 12}}}
	if !same(x, want) || err != api.OK {
		t.Errorf("%+v, %d", x, err)
	}
	if text := invoice.Text(x); text != "invoice of 3 for period 0\n  project 3 group 1 tier 0: 3 blocks at 4 = 12\n  group 1: 12\ntotal 12\n" {
		t.Error(text)
	}
}

func TestP21_1_Make(t *testing.T) {
	x, s := wood(t), usage.New()
	four := []invoice.Line{of(3, 1, 0, 7, 2), of(3, 8, 5, 0, 9), of(4, 2, 1, 3, 1), of(4, 2, 1, 4, 1), of(6, 1, 2, 100, 5), of(8, 8, 0, 1, 1)}
	put(t, s, 4, four...)
	put(t, s, 0, of(3, 1, 0, 7, 1000), of(32, 4, 3, 2, 1))
	put(t, s, 31, most(2, 3, 4), of(9, 1, 1, 1, 1))
	for _, one := range []struct {
		node, period int
		want         invoice.Invoice
	}{
		{1, 4, made(t, 1, 4, four[:5]...)},
		{2, 4, made(t, 2, 4, four[:4]...)},
		{3, 4, made(t, 3, 4, four[:2]...)},
		{4, 4, made(t, 4, 4, four[2:4]...)},
		{5, 4, made(t, 5, 4, four[4])},
		{6, 4, made(t, 6, 4, four[4])},
		{7, 4, made(t, 7, 4, four[5])},
		{8, 4, made(t, 8, 4, four[5])},
		{32, 4, made(t, 32, 4)},
		{32, 0, made(t, 32, 0, of(32, 4, 3, 2, 1))},
		{1, 0, made(t, 1, 0, of(3, 1, 0, 7, 1000))},
		{1, 31, made(t, 1, 31, most(2, 3, 4))},
		{7, 31, made(t, 7, 31)},
		{1, 5, made(t, 1, 5)},
		{1, 3, made(t, 1, 3)},
	} {
		what := fmt.Sprintf("Make(%d, %d)", one.node, one.period)
		got, err := invoice.Make(x, s, one.node, one.period)
		if !same(got, one.want) || err != api.OK {
			t.Errorf("%s: %+v, %d, not %+v", what, got, err, one.want)
		}
		fine(t, what, got)
	}
	got, _ := invoice.Make(x, s, 1, 4)
	if want := []invoice.Part{{Group: 1, Amount: 514}, {Group: 2, Amount: 7}, {Group: 8}}; !slices.Equal(got.Parts, want) || got.Total != 521 {
		t.Error(got.Parts, got.Total)
	}
}

func TestP21_1_MakeOfWhatIsNotThere(t *testing.T) {
	x, s := wood(t), usage.New()
	for group := 1; group <= 8; group++ {
		put(t, s, 2, most(3, group, 0))
	}
	for _, node := range []int{9, 31, 0, -1, 33, math.MinInt, math.MaxInt} {
		refuses(t, "no such node", x, s, node, 2, api.ErrMiss)
		refuses(t, "no node at all", tree.New(), s, node, 2, api.ErrMiss)
	}
	for _, period := range []int{-1, 32, math.MinInt, math.MaxInt} {
		for _, node := range []int{1, 6, 9, 0} {
			refuses(t, "no such period", x, s, node, period, api.ErrArg)
			refuses(t, "no such period, nor a tree", nil, s, node, period, api.ErrArg)
		}
	}
	for _, node := range []int{1, 6, 9, 0} {
		refuses(t, "no tree", nil, s, node, 2, api.ErrArg)
		refuses(t, "no sheet", x, nil, node, 2, api.ErrArg)
		refuses(t, "neither", nil, nil, node, 2, api.ErrArg)
	}
	refuses(t, "too great", x, s, 1, 2, api.ErrOver)
}

func TestP21_1_MakeOfSumsAtTheirLimit(t *testing.T) {
	x := wood(t)
	var tiers, groups, spread []invoice.Line
	for n := range 8 {
		tiers = append(tiers, of(3, 1, n%6, maxPrice-n/6, maxBlocks))
		groups = append(groups, most(3, n+1, 0))
		spread = append(spread, most([]int{3, 4, 6}[n%3], 1+n/3, n%6))
	}
	slices.SortFunc(tiers, compare)
	slices.SortFunc(spread, compare)
	rest := of(3, 8, 1, maxPrice, maxBlocks-1)
	last := of(3, 8, 2, 1, maxPrice-1)
	for what, lines := range map[string][]invoice.Line{"groups": groups, "nodes": spread} {
		s := usage.New()
		put(t, s, 2, lines...)
		refuses(t, what, x, s, 1, 2, api.ErrOver)
		got, err := invoice.Make(x, s, 8, 2)
		if !same(got, made(t, 8, 2)) || err != api.OK {
			t.Errorf("%s: another node: %+v, %d", what, got, err)
		}
	}
	// Seven of the greatest, and what then is left: to the greatest int, and one more.
	s := usage.New()
	lines := slices.Concat(groups[:7], []invoice.Line{rest, last})
	put(t, s, 2, lines...)
	got, err := invoice.Make(x, s, 3, 2)
	if !same(got, made(t, 3, 2, lines...)) || err != api.OK || got.Total != math.MaxInt {
		t.Errorf("the greatest: %+v, %d", got, err)
	}
	fine(t, "the greatest", got)
	put(t, s, 2, of(3, 1, 5, 1, 1))
	refuses(t, "one more", x, s, 3, 2, api.ErrOver)
	// Of one group alone.
	s = usage.New()
	put(t, s, 0, tiers...)
	got, err = invoice.Make(x, s, 2, 0)
	if !same(got, made(t, 2, 0, tiers...)) || err != api.OK || len(got.Parts) != 1 {
		t.Errorf("one group: %+v, %d", got, err)
	}
	put(t, s, 0, of(3, 1, 0, 5, maxBlocks))
	refuses(t, "one group, too great", x, s, 2, 0, api.ErrOver)
}

func TestP21_1_MakeAgainstAModel(t *testing.T) {
	x := wood(t)
	over := 0
	for seed := range 60 {
		r := rand.New(rand.NewSource(int64(seed)))
		pick := func(l ...int) int { return l[r.Intn(len(l))] }
		s := usage.New()
		for range r.Intn(300) {
			// It may be refused: the sheet is asked what it has.
			s.Add(r.Intn(2), pick(1, 2, 3, 4, 6, 8, 9, 32), 1+r.Intn(8), []api.Line{{Tier: r.Intn(6), Blocks: pick(1, 30, maxBlocks), Price: pick(0, 3, maxPrice)}})
		}
		for node, nodes := range below {
			for period := range 2 {
				var lines []invoice.Line
				for _, row := range s.Rows(period, nodes) {
					lines = append(lines, of(row.Node, row.Group, row.Tier, row.Price, row.Blocks))
				}
				want, ok := reckoned(node, period, lines...)
				if !ok {
					refuses(t, "too great", x, s, node, period, api.ErrOver)
					over++
					continue
				}
				got, err := invoice.Make(x, s, node, period)
				if !same(got, want) || err != api.OK {
					t.Fatalf("seed %d: Make(%d, %d): %+v, %d, not %+v", seed, node, period, got, err, want)
				}
				fine(t, fmt.Sprint("seed ", seed), got)
			}
		}
	}
	if over < 10 {
		t.Error(over)
	}
}

// beyond answers numbers outside these edges.
func beyond(least, most int) []int {
	return []int{least - 1, most + 1, math.MinInt, math.MaxInt}
}

// six are lines of which each is above the one ahead by another of its numbers.
func six() []invoice.Line {
	return []invoice.Line{of(2, 4, 5, 9, 7), of(3, 3, 5, 9, 6), of(3, 4, 4, 9, 5), of(3, 4, 5, 8, 4), of(3, 4, 5, 9, 3), of(3, 8, 0, 0, 1)}
}

func TestP21_1_CheckOfWhatIsOne(t *testing.T) {
	for _, node := range []int{1, 2, 31, 32} {
		for _, period := range []int{0, 1, 30, 31} {
			fine(t, "no lines", made(t, node, period))
			fine(t, "six lines", made(t, node, period, six()...))
			for _, l := range []invoice.Line{of(1, 1, 0, 0, 1), of(32, 8, 5, maxPrice, maxBlocks), of(1, 8, 0, maxPrice, 1), of(32, 1, 5, 0, maxBlocks)} {
				fine(t, "a line at its edges", made(t, node, period, l))
			}
		}
	}
	empty := invoice.Invoice{Node: 1, Lines: []invoice.Line{}, Parts: []invoice.Part{}}
	told(t, "empty lists", invoice.Check(empty), api.OK)
}

// many answers so many lines that rise.
func many(n int) []invoice.Line {
	var l []invoice.Line
	for price := range n {
		l = append(l, of(3, 2, 1, price, 2))
	}
	return l
}

func TestP21_1_CheckOfTheHead(t *testing.T) {
	bad := six()
	bad[0].Amount++
	for _, lines := range [][]invoice.Line{nil, six(), bad} {
		for _, n := range beyond(1, 32) {
			x, _ := reckoned(n, 0, lines...)
			wrong(t, "a Node", x, api.ErrArg)
			x.Total++
			wrong(t, "a Node, and Total", x, api.ErrArg)
		}
		for _, n := range beyond(0, 31) {
			x, _ := reckoned(1, n, lines...)
			wrong(t, "a Period", x, api.ErrArg)
			x.Total++
			wrong(t, "a Period, and Total", x, api.ErrArg)
		}
	}
	fine(t, "as many lines as can be", made(t, 1, 0, many(maxLines)...))
	x := made(t, 1, 0, many(maxLines+1)...)
	wrong(t, "a line too many", x, api.ErrArg)
	x.Lines[0].Amount++
	wrong(t, "a line too many, and an Amount", x, api.ErrArg)
	wrong(t, "nothing", invoice.Invoice{}, api.ErrArg)
}

func TestP21_1_CheckOfLines(t *testing.T) {
	for i := range six() {
		spoil := func(what string, want api.Errno, change func(l *invoice.Line)) {
			t.Helper()
			lines := six()
			change(&lines[i])
			x, _ := reckoned(1, 0, lines...)
			wrong(t, fmt.Sprintf("%s of line %d", what, i), x, want)
			alone, _ := reckoned(1, 0, lines[i])
			// A line alone rises always.
			if want != api.ErrOrder {
				wrong(t, what+" of a line alone", alone, want)
			}
			// Of two lines that aren't right, the first one is told, whatever it is.
			for j := range i {
				x := copied(x)
				x.Lines[j].Amount--
				wrong(t, fmt.Sprintf("%s of line %d, and an Amount ahead", what, i), x, api.ErrFalse)
			}
			for j := i + 1; j < len(lines); j++ {
				x := copied(x)
				x.Lines[j].Node = 33
				wrong(t, fmt.Sprintf("%s of line %d, and a Node behind", what, i), x, want)
			}
		}
		for _, n := range beyond(1, 32) {
			spoil("Node", api.ErrArg, func(l *invoice.Line) { l.Node = n })
			spoil("Node and Amount", api.ErrArg, func(l *invoice.Line) { l.Node, l.Amount = n, -1 })
		}
		for _, n := range beyond(1, 8) {
			spoil("Group", api.ErrArg, func(l *invoice.Line) { l.Group = n })
			spoil("Group and Amount", api.ErrArg, func(l *invoice.Line) { l.Group, l.Amount = n, -1 })
		}
		for _, n := range beyond(0, 5) {
			spoil("Tier", api.ErrArg, func(l *invoice.Line) { l.Tier = n })
		}
		for _, n := range beyond(0, maxPrice) {
			spoil("Price", api.ErrArg, func(l *invoice.Line) { l.Price, l.Amount = n, l.Blocks*n })
			spoil("Price and Amount", api.ErrArg, func(l *invoice.Line) { l.Price = n })
		}
		for _, n := range append(beyond(1, maxBlocks), -1) {
			spoil("Blocks", api.ErrArg, func(l *invoice.Line) { l.Blocks, l.Amount = n, l.Price*n })
			spoil("Blocks and Amount", api.ErrArg, func(l *invoice.Line) { l.Blocks = n })
		}
		for _, n := range []int{-1, 1, math.MinInt, math.MaxInt} {
			spoil("Amount", api.ErrFalse, func(l *invoice.Line) { l.Amount += n })
		}
	}
}

func TestP21_1_CheckOfTheOrder(t *testing.T) {
	l := of(3, 4, 3, 9, 7)
	for what, change := range map[string]func(l *invoice.Line, n int){
		"Node":  func(l *invoice.Line, n int) { l.Node += n },
		"Group": func(l *invoice.Line, n int) { l.Group += n },
		"Tier":  func(l *invoice.Line, n int) { l.Tier += n },
		"Price": func(l *invoice.Line, n int) { l.Price += n },
	} {
		low, high := l, l
		change(&low, -1)
		change(&high, 1)
		// What is behind in order may be anything.
		if what == "Node" {
			low.Group, high.Group = 8, 1
		}
		if what != "Price" {
			low.Price, high.Price = maxPrice, 0
		}
		low.Amount, high.Amount = low.Blocks*low.Price, high.Blocks*high.Price
		fine(t, what+" rises", made(t, 1, 0, low, l))
		fine(t, what+" rises", made(t, 1, 0, low, l, high))
		for _, lines := range [][]invoice.Line{{l, low}, {high, l}, {low, high, l}, {l, low, high}} {
			x := made(t, 1, 0, lines...)
			wrong(t, what+" falls", x, api.ErrOrder)
			falls := 1
			for compare(lines[falls-1], lines[falls]) < 0 {
				falls++
			}
			x.Lines[falls].Amount++
			x.Total++
			wrong(t, what+" falls, and an Amount", x, api.ErrOrder)
			x.Lines[0].Amount++
			wrong(t, "an Amount ahead", x, api.ErrFalse)
			x.Lines[0].Tier = 6
			wrong(t, "a Tier ahead", x, api.ErrArg)
		}
	}
	wrong(t, "two that stand equal", made(t, 1, 0, l, l), api.ErrOrder)
	// Blocks don't tell lines apart.
	wrong(t, "two of other Blocks", made(t, 1, 0, l, of(3, 4, 3, 9, 8)), api.ErrOrder)
	wrong(t, "two of fewer Blocks", made(t, 1, 0, l, of(3, 4, 3, 9, 6)), api.ErrOrder)
	x := made(t, 1, 0, l, of(3, 4, 2, maxPrice+1, 7))
	wrong(t, "no row, that falls", x, api.ErrArg)
}

func TestP21_1_CheckOfPartsAndTotal(t *testing.T) {
	x := made(t, 1, 0, of(3, 1, 0, 7, 2), of(3, 2, 0, 5, 1), of(3, 4, 0, 0, 1), of(4, 1, 0, 3, 3))
	if want := []invoice.Part{{Group: 1, Amount: 23}, {Group: 2, Amount: 5}, {Group: 4}}; !slices.Equal(x.Parts, want) || x.Total != 28 {
		t.Fatal(x)
	}
	fine(t, "an invoice", x)
	spoil := func(what string, change func(x *invoice.Invoice)) {
		t.Helper()
		y := copied(x)
		change(&y)
		wrong(t, what, y, api.ErrFalse)
	}
	for _, n := range []int{-1, 1, -28, math.MinInt, math.MaxInt} {
		spoil("Total", func(y *invoice.Invoice) { y.Total += n })
		for i := range x.Parts {
			spoil("a part's Amount", func(y *invoice.Invoice) { y.Parts[i].Amount += n })
			spoil("a part's Amount, and Total", func(y *invoice.Invoice) { y.Parts[i].Amount += n; y.Total += n })
		}
	}
	for i := range x.Parts {
		spoil("a part is missing", func(y *invoice.Invoice) { y.Parts = slices.Delete(y.Parts, i, i+1) })
		spoil("a part is there twice", func(y *invoice.Invoice) { y.Parts = slices.Insert(y.Parts, i, y.Parts[i]) })
		for _, group := range []int{0, 3, 5, 9, -1, math.MaxInt} {
			spoil("a part's Group", func(y *invoice.Invoice) { y.Parts[i].Group = group })
			spoil("a part too many", func(y *invoice.Invoice) { y.Parts = slices.Insert(y.Parts, i, invoice.Part{Group: group}) })
		}
	}
	for _, group := range []int{0, 5, 8, 9} {
		spoil("a part too many, behind", func(y *invoice.Invoice) { y.Parts = append(y.Parts, invoice.Part{Group: group}) })
	}
	for i := range 2 {
		spoil("parts in another order", func(y *invoice.Invoice) { y.Parts[i], y.Parts[i+1] = y.Parts[i+1], y.Parts[i] })
	}
	spoil("no parts", func(y *invoice.Invoice) { y.Parts = nil })
	spoil("no parts, and no Total", func(y *invoice.Invoice) { y.Parts, y.Total = nil, 0 })
	spoil("no lines", func(y *invoice.Invoice) { y.Lines = nil })
	for what, y := range map[string]invoice.Invoice{
		"a Total of no lines":  {Node: 1, Total: 1},
		"a part of no lines":   {Node: 1, Parts: []invoice.Part{{Group: 1}}},
		"a part and its Total": {Node: 1, Total: 5, Parts: []invoice.Part{{Group: 1, Amount: 5}}},
	} {
		wrong(t, what, y, api.ErrFalse)
	}
}

func TestP21_1_CheckOfSumsThatAreNoInt(t *testing.T) {
	var one, two []invoice.Line
	for n := range 8 {
		one = append(one, most(3+n, 1, 0))
		two = append(two, most(3+n, 1+n%2, 0))
	}
	for _, total := range []int{math.MinInt, 0, math.MaxInt} {
		for _, amount := range []int{math.MinInt, 0, math.MaxInt} {
			x := invoice.Invoice{Node: 1, Total: total, Lines: one, Parts: []invoice.Part{{Group: 1, Amount: amount}}}
			wrong(t, "a part that is no int", x, api.ErrFalse)
		}
		x := invoice.Invoice{Node: 1, Total: total, Lines: two, Parts: []invoice.Part{{Group: 1, Amount: 1 << 62}, {Group: 2, Amount: 1 << 62}}}
		wrong(t, "a Total that is no int", x, api.ErrFalse)
		for _, parts := range [][]invoice.Part{nil, x.Parts[:1]} {
			x.Parts = parts
			wrong(t, "a Total that is no int, and too few parts", x, api.ErrFalse)
		}
		for _, lines := range [][]invoice.Line{one, two} {
			wrong(t, "no parts", invoice.Invoice{Node: 1, Total: total, Lines: lines}, api.ErrFalse)
		}
	}
	for _, lines := range [][]invoice.Line{one, two} {
		refused(t, "sums that are no int", written(invoice.Invoice{Node: 1, Lines: lines}))
		fine(t, "one line fewer", made(t, 1, 0, lines[1:]...))
	}
}

// post puts an entry with these amounts on accounts.
func post(t *testing.T, j *journal.Journal, legs ...entry.Leg) {
	t.Helper()
	if _, err := j.Post(entry.Entry{Kind: entry.Commit, Legs: legs}); err != api.OK {
		t.Fatal(legs, err)
	}
}

// leg answers an amount on the Usage account of a node and a group.
func leg(node, group, amount int) entry.Leg {
	return entry.Leg{Account: entry.Account{Kind: entry.Usage, Node: node, Group: group}, Amount: amount}
}

// spend moves an amount at the path, of the group, by an entry of the kind.
func spend(t *testing.T, j *journal.Journal, kind, amount int, path []int, group int) {
	t.Helper()
	e, err := entry.Make(kind, amount, path, group)
	if err != api.OK {
		t.Fatal(err)
	}
	if _, err := j.Post(e); err != api.OK {
		t.Fatal(err)
	}
}

// net holds what Net answers.
func net(t *testing.T, what string, j *journal.Journal, nodes []int, period, want int, ok bool) {
	t.Helper()
	if n, is := invoice.Net(j, nodes, period); n != want || is != ok {
		t.Errorf("%s: Net(%v, %d): %d, %v, not %d, %v", what, nodes, period, n, is, want, ok)
	}
}

func TestP21_1_Net(t *testing.T) {
	j := journal.New()
	spend(t, j, entry.TopUp, 1000, []int{1, 2, 3}, 0)
	spend(t, j, entry.Hold, 900, []int{1, 2, 3}, 0)
	spend(t, j, entry.Commit, 5, []int{1, 2, 3}, 1)
	spend(t, j, entry.Commit, 60, []int{1, 2, 3}, 8)
	spend(t, j, entry.Commit, 700, []int{1, 2, 32}, 4)
	spend(t, j, entry.Release, 90, []int{1, 2, 3}, 0)
	j.Close()
	spend(t, j, entry.Commit, 9, []int{1, 2, 3}, 1)
	spend(t, j, entry.Refund, 60, []int{1, 2, 3}, 8)
	spend(t, j, entry.Expire, 3, []int{1, 2, 3}, 0)
	j.Close()
	for _, one := range []struct {
		nodes        []int
		period, want int
	}{
		{[]int{3}, 0, 65}, {[]int{1}, 0, 765}, {[]int{2}, 0, 765}, {[]int{32}, 0, 700},
		{[]int{3, 32}, 0, 765}, {[]int{32, 3}, 0, 765}, {[]int{1, 3, 32}, 0, 1530},
		{[]int{3, 3}, 0, 65}, {[]int{3, 32, 3, 3, 32}, 0, 765},
		{nil, 0, 0}, {[]int{}, 0, 0}, {[]int{4}, 0, 0},
		{[]int{0, -1, 33, math.MinInt, math.MaxInt}, 0, 0}, {[]int{0, 33, 3, math.MaxInt}, 0, 65},
		{[]int{3}, 1, -51}, {[]int{1, 2}, 1, -102}, {[]int{32}, 1, 0}, {[]int{3, 32}, 1, -51},
		{[]int{1, 2, 3, 32}, 2, 0}, {[]int{3}, 3, 0}, {[]int{3}, -1, 0}, {[]int{3}, 31, 0}, {[]int{3}, 32, 0},
		{[]int{3}, math.MinInt, 0}, {[]int{3}, math.MaxInt, 0},
	} {
		net(t, "a journal", j, one.nodes, one.period, one.want, true)
	}
	net(t, "nil", nil, []int{1, 2, 3}, 0, 0, true)
	net(t, "new", journal.New(), []int{1, 2, 3}, 0, 0, true)
	if j.Len() != 9 || j.Period() != 2 {
		t.Error("Net has changed the journal")
	}
}

// heavy answers a journal in which the eight Usage accounts of node 1 are at -2^60, but one at rest above that;
// and what eight Funds accounts have, is the other side.
func heavy(t *testing.T, sign, rest int) *journal.Journal {
	t.Helper()
	j := journal.New()
	for n := range 128 {
		var legs []entry.Leg
		for group := 1; group <= 8; group++ {
			legs = append(legs, entry.Leg{Account: entry.Account{Kind: entry.Funds, Node: group}, Amount: sign * api.MaxAmount})
		}
		for group := 1; group <= 8; group++ {
			legs = append(legs, leg(1, group, -sign*api.MaxAmount))
		}
		if n == 0 {
			legs[7].Amount -= sign * rest
			legs[15].Amount += sign * rest
		}
		post(t, j, legs...)
	}
	return j
}

func TestP21_1_NetOfSumsAtTheirLimit(t *testing.T) {
	net(t, "one above the greatest int", heavy(t, 1, 0), []int{1}, 0, 0, false)
	net(t, "one above it, another period", heavy(t, 1, 0), []int{1}, 1, 0, true)
	net(t, "the greatest int", heavy(t, 1, 1), []int{1}, 0, math.MaxInt, true)
	net(t, "the greatest int, named twice", heavy(t, 1, 1), []int{1, 1}, 0, math.MaxInt, true)
	// The sum of what was moved is no int here, but its opposite is.
	j := heavy(t, -1, 0)
	net(t, "the least int", j, []int{1}, 0, math.MinInt, true)
	net(t, "one above the least int", heavy(t, -1, 1), []int{1}, 0, math.MinInt+1, true)
	post(t, j, entry.Leg{Account: entry.Account{Kind: entry.Held, Node: 1}, Amount: -1}, leg(2, 1, 1))
	net(t, "one below the least int", j, []int{1, 2}, 0, 0, false)
	net(t, "without the one", j, []int{1}, 0, math.MinInt, true)
	post(t, j, entry.Leg{Account: entry.Account{Kind: entry.Held, Node: 1}, Amount: 6}, leg(3, 1, -6))
	net(t, "no int on the way", j, []int{1, 2, 3}, 0, math.MinInt+5, true)
	// From one end of what a balance may be to the other one, each account is moved 2^61.
	j = heavy(t, 1, 0)
	j.Close()
	for range 256 {
		post(t, j,
			entry.Leg{Account: entry.Account{Kind: entry.Funds, Node: 1}, Amount: -api.MaxAmount},
			entry.Leg{Account: entry.Account{Kind: entry.Funds, Node: 2}, Amount: -api.MaxAmount},
			entry.Leg{Account: entry.Account{Kind: entry.Funds, Node: 3}, Amount: -api.MaxAmount},
			entry.Leg{Account: entry.Account{Kind: entry.Funds, Node: 4}, Amount: -api.MaxAmount},
			leg(1, 1, api.MaxAmount), leg(1, 2, api.MaxAmount), leg(1, 3, api.MaxAmount), leg(1, 4, api.MaxAmount))
	}
	net(t, "back", j, []int{1}, 1, math.MinInt, true)
	post(t, j, entry.Leg{Account: entry.Account{Kind: entry.Held, Node: 1}, Amount: -1}, leg(1, 8, 1))
	net(t, "back, and one more", j, []int{1}, 1, 0, false)
	net(t, "the period ahead", j, []int{1}, 0, 0, false)
}

func TestP21_1_Text(t *testing.T) {
	for _, one := range []struct {
		x    invoice.Invoice
		want string
	}{
		{invoice.Invoice{}, "invoice of 0 for period 0\ntotal 0\n"},
		{made(t, 7, 31), "invoice of 7 for period 31\ntotal 0\n"},
		{
			made(t, 1, 4, of(3, 1, 0, 7, 2), of(3, 8, 5, 0, 9), of(12, 1, 2, maxPrice, maxBlocks)),
			"invoice of 1 for period 4\n" +
				"  project 3 group 1 tier 0: 2 blocks at 7 = 14\n" +
				"  project 3 group 8 tier 5: 9 blocks at 0 = 0\n" +
				"  project 12 group 1 tier 2: 1099511627776 blocks at 1048576 = 1152921504606846976\n" +
				"  group 1: 1152921504606846990\n" +
				"  group 8: 0\n" +
				"total 1152921504606846990\n",
		},
		// It tells what stands there, be it an invoice or not.
		{
			invoice.Invoice{Node: -1, Period: -20, Total: math.MinInt,
				Lines: []invoice.Line{{Node: -3, Group: -4, Tier: -5, Price: -6, Blocks: -7, Amount: -8}, {Node: math.MaxInt}},
				Parts: []invoice.Part{{Group: -9, Amount: math.MaxInt}, {Group: 9, Amount: -10}}},
			"invoice of -1 for period -20\n" +
				"  project -3 group -4 tier -5: -7 blocks at -6 = -8\n" +
				"  project 9223372036854775807 group 0 tier 0: 0 blocks at 0 = 0\n" +
				"  group -9: 9223372036854775807\n" +
				"  group 9: -10\n" +
				"total -9223372036854775808\n",
		},
		{invoice.Invoice{Node: 5, Parts: []invoice.Part{{Group: 2, Amount: 3}}}, "invoice of 5 for period 0\n  group 2: 3\ntotal 0\n"},
		{invoice.Invoice{Node: 5, Lines: []invoice.Line{of(1, 2, 3, 4, 5)}}, "invoice of 5 for period 0\n  project 1 group 2 tier 3: 5 blocks at 4 = 20\ntotal 0\n"},
	} {
		if text := invoice.Text(one.x); text != one.want {
			t.Errorf("Text(%+v):\n%s", one.x, text)
		}
	}
	if text := invoice.Text(made(t, 1, 0, many(maxLines)...)); strings.Count(text, "\n") != maxLines+3 || !strings.HasSuffix(text, "\ntotal 16773120\n") {
		t.Error("Text of all lines there may be")
	}
}

func TestP21_2_Bytes(t *testing.T) {
	x := made(t, 2, 31, of(3, 1, 0, 300, 2), of(32, 8, 5, 0, 128))
	want := []byte{2, 31, 2, 3, 1, 0, 0xAC, 2, 2, 32, 8, 5, 0, 0x80, 1}
	if b, err := invoice.Write(x); !bytes.Equal(b, want) || err != api.OK {
		t.Errorf("%x, %d, not %x", b, err, want)
	}
	if b, err := invoice.Write(invoice.Invoice{Node: 9}); !bytes.Equal(b, []byte{9, 0, 0}) || err != api.OK {
		t.Errorf("%x, %d", b, err)
	}
	y, err := invoice.Read(want)
	if !same(x, y) || err != api.OK || y.Total != 600 || !slices.Equal(y.Parts, []invoice.Part{{Group: 1, Amount: 600}, {Group: 8}}) {
		t.Errorf("%+v, %d", y, err)
	}
}

// refused holds that these bytes are no invoice's.
func refused(t *testing.T, what string, b []byte) {
	t.Helper()
	if x, err := invoice.Read(b); !reflect.DeepEqual(x, invoice.Invoice{}) || err != api.ErrForm {
		t.Errorf("%s: Read(%x): %+v, %d", what, b, x, err)
	}
}

func TestP21_2_WhatIsNoInvoice(t *testing.T) {
	refused(t, "nothing", nil)
	refused(t, "nothing", []byte{})
	x := made(t, 2, 5, six()...)
	great := []int{maxBlocks, maxBlocks + 1, 1 << 62, math.MaxInt}
	for _, n := range append(great, 0, 33) {
		refused(t, "Node", written(invoice.Invoice{Node: n, Lines: x.Lines}))
		refused(t, "Node of no lines", written(invoice.Invoice{Node: n}))
	}
	for _, n := range append(great, 32) {
		refused(t, "Period", written(invoice.Invoice{Node: 2, Period: n, Lines: x.Lines}))
		refused(t, "Period of no lines", written(invoice.Invoice{Node: 2, Period: n}))
	}
	spoil := func(what string, change func(l *invoice.Line, n int), numbers []int) {
		for i := range x.Lines {
			for _, n := range numbers {
				y := copied(x)
				change(&y.Lines[i], n)
				refused(t, what, written(y))
				y.Lines = y.Lines[i : i+1]
				refused(t, what, written(y))
			}
		}
	}
	spoil("a line's Node", func(l *invoice.Line, n int) { l.Node = n }, append(great, 0, 33))
	spoil("a line's Group", func(l *invoice.Line, n int) { l.Group = n }, append(great, 0, 9))
	spoil("a line's Tier", func(l *invoice.Line, n int) { l.Tier = n }, append(great, 6))
	spoil("a line's Price", func(l *invoice.Line, n int) { l.Price = n }, append(great, maxPrice+1))
	spoil("a line's Blocks", func(l *invoice.Line, n int) { l.Blocks = n }, append(great[1:], 0))
	spoil("a product that is no int", func(l *invoice.Line, n int) { l.Price, l.Blocks = n, n }, great)
	for i := range x.Lines {
		y := copied(x)
		y.Lines = slices.Insert(y.Lines, i, y.Lines[i])
		refused(t, "a line twice", written(y))
		for j := range i {
			y := copied(x)
			y.Lines[i], y.Lines[j] = y.Lines[j], y.Lines[i]
			refused(t, "two swapped", written(y))
		}
	}
	parts := written(x)[3:]
	for _, n := range []int{0, 1, 5, 7, 128, maxLines, maxLines + 1, math.MaxInt} {
		refused(t, "the count of lines", append(uints(2, 5, n), parts...))
	}
	refused(t, "one line too many", written(invoice.Invoice{Node: 1, Lines: many(maxLines + 1)}))
}

// parsed answers the invoice of bytes, if they are one's.
func parsed(b []byte) (invoice.Invoice, bool) {
	fine := true
	uint := func(most uint64) int {
		n, size := binary.Uvarint(b)
		// The shortest form alone is one.
		if size <= 0 || n > most || !bytes.Equal(binary.AppendUvarint(nil, n), b[:size]) {
			fine, b = false, nil
			return 0
		}
		b = b[size:]
		return int(n)
	}
	node, period := uint(maxBlocks), uint(maxBlocks)
	var lines []invoice.Line
	for range uint(maxLines) {
		l := of(uint(maxBlocks), uint(maxBlocks), uint(maxBlocks), uint(maxBlocks), uint(maxBlocks))
		fine = fine && isRow(l) && (len(lines) == 0 || compare(lines[len(lines)-1], l) < 0)
		lines = append(lines, l)
	}
	x, ok := reckoned(node, period, lines...)
	return x, fine && ok && len(b) == 0 && within(node, 1, 32) && within(period, 0, 31)
}

// reads holds that bytes are read as the model of a reader says.
func reads(t *testing.T, b []byte) bool {
	t.Helper()
	want, is := parsed(slices.Clone(b))
	if !is {
		refused(t, "no invoice", b)
		return false
	}
	fine(t, fmt.Sprintf("%x", b), want)
	if x, err := invoice.Read(b); !same(x, want) || err != api.OK {
		t.Errorf("Read(%x): %+v, %d, not %+v", b, x, err, want)
	}
	return true
}

func TestP21_2_EachByteOfAnInvoice(t *testing.T) {
	b := written(made(t, 2, 5, append(six(), most(32, 8, 5))...))
	if !reads(t, b) {
		t.Fatal("it isn't an invoice")
	}
	for n := range b {
		refused(t, "cut short", b[:n])
		for c := range 256 {
			spoilt := slices.Clone(b)
			spoilt[n] = byte(c)
			reads(t, spoilt)
			reads(t, slices.Insert(slices.Clone(b), n, byte(c)))
		}
		reads(t, slices.Delete(slices.Clone(b), n, n+1))
	}
	for c := range 256 {
		refused(t, "one behind it", append(slices.Clone(b), byte(c)))
	}
}

func TestP21_2_AllShortBytes(t *testing.T) {
	fine := 0
	for first := range 256 {
		refused(t, "a byte", []byte{byte(first)})
		for second := range 256 {
			refused(t, "two bytes", []byte{byte(first), byte(second)})
			for third := range 3 {
				if reads(t, []byte{byte(first), byte(second), byte(third)}) {
					fine++
				}
			}
		}
	}
	// Each Node with each Period, and no line.
	if fine != 32*32 {
		t.Error(fine)
	}
}

func TestP21_3_WhatIsHandedInIsNotKeptOrChanged(t *testing.T) {
	x := made(t, 2, 5, six()...)
	room := copied(x)
	room.Lines = append(make([]invoice.Line, 0, 9), x.Lines...)
	room.Parts = append(make([]invoice.Part, 0, 9), x.Parts...)
	lines, parts := slices.Clone(room.Lines[:9]), slices.Clone(room.Parts[:9])
	for range 2 {
		invoice.Check(room)
		invoice.Write(room)
		invoice.Text(room)
		if !slices.Equal(room.Lines[:9], lines) || !slices.Equal(room.Parts[:9], parts) {
			t.Fatal("a call has changed its argument")
		}
		// And once more, where it isn't right.
		room.Total++
	}
	b := written(x)
	y, _ := invoice.Read(b)
	if !bytes.Equal(b, written(x)) {
		t.Error("Read has changed its argument")
	}
	clear(b)
	if !same(x, y) {
		t.Error("Read keeps its argument")
	}
	nodes := append(make([]int, 0, 6), 3, 1, 3, 2)
	invoice.Net(journal.New(), nodes, 0)
	if !slices.Equal(nodes[:6], []int{3, 1, 3, 2, 0, 0}) {
		t.Error("Net has changed its argument")
	}
	wood, s := wood(t), usage.New()
	put(t, s, 5, six()...)
	ahead, _ := s.Write()
	invoice.Make(wood, s, 1, 5)
	invoice.Make(wood, s, 9, 5)
	if behind, _ := s.Write(); !bytes.Equal(ahead, behind) || len(wood.Ids()) != len(below) {
		t.Error("Make has changed its argument")
	}
}

func TestP21_3_AnswersAreNewMemory(t *testing.T) {
	wood, s := wood(t), usage.New()
	put(t, s, 5, six()...)
	want := made(t, 2, 5, six()...)
	b := written(want)
	spoil := func(x invoice.Invoice) {
		clear(x.Lines[:cap(x.Lines)])
		clear(x.Parts[:cap(x.Parts)])
	}
	for range 2 {
		x, _ := invoice.Make(wood, s, 2, 5)
		again, _ := invoice.Make(wood, s, 2, 5)
		spoil(x)
		if !same(again, want) {
			t.Error("two answers of Make share memory")
		}
		y, _ := invoice.Read(b)
		other, _ := invoice.Read(b)
		spoil(y)
		if !same(other, want) {
			t.Error("two answers of Read share memory")
		}
		bytesOf, _ := invoice.Write(want)
		clear(bytesOf[:cap(bytesOf)])
		if !same(want, made(t, 2, 5, six()...)) || !bytes.Equal(b, written(want)) {
			t.Error("an answer shares memory with its argument")
		}
	}
	x, _ := invoice.Make(wood, s, 2, 5)
	put(t, s, 5, six()...)
	if !same(x, want) {
		t.Error("an answer has changed")
	}
}
