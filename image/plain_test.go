package image_test

import (
	"cmp"
	"encoding/binary"
	"slices"
	"testing"

	"purser/api"
	"purser/credit"
	"purser/entry"
	"purser/funds"
	"purser/ledger"
	"purser/period"
	"purser/rhythm"
	"purser/server"
	"purser/tariff"
	"purser/tree"
	"purser/usage"
	"purser/window"
)

// posted is an entry's bytes, and its period.
type posted struct {
	period int
	entry  []byte
}

// known is a session's window.
type known struct {
	id     int
	window []byte
}

// plain is an image's parts, as they stand there.
type plain struct {
	config       [4]int
	nodes        []tree.Node
	accounts     [][6]int
	open         int
	entries      []posted
	plans        [][]byte
	sheet, table []byte
	rhythms      [][5]int
	past         []ledger.Past
	known        []known
	ended        []int
	events       []byte
}

// written answers bytes that a layer has written.
func written(t *testing.T) func(b []byte, err api.Errno) []byte {
	return func(b []byte, err api.Errno) []byte {
		t.Helper()
		if err != api.OK {
			t.Fatalf("Write: %d", err)
		}
		return b
	}
}

// plainOf answers the parts of a server, one by one as the chapter names them.
func plainOf(t *testing.T, s *server.Server) plain {
	t.Helper()
	l := s.Ledger()
	c := l.Config()
	p := plain{config: [4]int{c.Validity, c.Places, c.Day, l.Now()}}
	for kind := api.Org; kind <= api.Project; kind++ {
		for id := 1; id <= api.MaxNodes; id++ {
			if n, err := l.Tree().Get(id); err == api.OK && n.Kind == kind {
				p.nodes = append(p.nodes, n)
			}
		}
	}
	for node := 1; node <= api.MaxNodes; node++ {
		if a := l.Purse().Get(node); a != (funds.Account{}) {
			p.accounts = append(p.accounts, [6]int{node, a.Topped, a.Carried, a.Expired, a.Used, a.Held})
		}
	}
	j := l.Purse().Journal()
	p.open = j.Period()
	for i := range j.Len() {
		e, period, _ := j.At(i)
		p.entries = append(p.entries, posted{period, written(t)(entry.Write(e))})
	}
	for group := 1; group <= api.MaxGroups; group++ {
		if x, ok := l.Plan(group); ok {
			p.plans = append(p.plans, written(t)(tariff.Write(x)))
		}
	}
	p.sheet, p.table = written(t)(l.Sheet().Write()), written(t)(l.Table().Write())
	for node := 1; node <= api.MaxNodes; node++ {
		if q := l.Rhythm(node).Quarters; q != [4]int{} {
			p.rhythms = append(p.rhythms, [5]int{node, q[0], q[1], q[2], q[3]})
		}
	}
	p.past, p.ended = l.Past(), s.Ended()
	for _, k := range s.Parts().Sessions {
		p.known = append(p.known, known{k.Id, written(t)(k.Window.Write())})
	}
	p.events = written(t)(s.Parts().Events.Write())
	return p
}

// counts puts numbers without a sign.
func counts(b []byte, l ...int) []byte {
	for _, n := range l {
		b = binary.AppendUvarint(b, uint64(n))
	}
	return b
}

// text puts bytes behind their count.
func text(b, x []byte) []byte { return append(counts(b, len(x)), x...) }

// flag puts a yes or a no.
func flag(b []byte, yes bool) []byte {
	if yes {
		return append(b, 1)
	}
	return append(b, 0)
}

// bytes answers the parts' bytes, put together as the chapter says.
func (p plain) bytes() []byte {
	b := counts(nil, p.config[:]...)
	b = counts(b, len(p.nodes))
	for _, n := range p.nodes {
		b = counts(b, n.Id, n.Parent, n.Kind)
		b = flag(binary.AppendVarint(b, int64(n.Limit)), n.Closed)
	}
	b = counts(b, len(p.accounts))
	for _, a := range p.accounts {
		b = counts(b, a[:]...)
	}
	b = counts(b, p.open, len(p.entries))
	for _, e := range p.entries {
		b = text(counts(b, e.period), e.entry)
	}
	b = counts(b, len(p.plans))
	for _, x := range p.plans {
		b = text(b, x)
	}
	b = text(text(b, p.sheet), p.table)
	b = counts(b, len(p.rhythms))
	for _, r := range p.rhythms {
		b = counts(b, r[:]...)
	}
	b = counts(b, len(p.past))
	for _, e := range p.past {
		b = counts(b, e.Number, e.Node, e.Group, e.Period, e.Cost, len(e.Lines))
		for _, x := range e.Lines {
			b = counts(b, x.Tier, x.Blocks, x.Price)
		}
		b = flag(b, e.Back)
	}
	b = counts(b, len(p.known))
	for _, k := range p.known {
		b = text(counts(b, k.id), k.window)
	}
	b = counts(b, len(p.ended))
	return text(counts(b, p.ended...), p.events)
}

// reader takes parts; bad: there was one that is none.
type reader struct {
	left []byte
	bad  bool
}

// uint takes a number from 0 to most.
func (r *reader) uint(most int) int {
	n, size := binary.Uvarint(r.left)
	if r.bad || size <= 0 || size > 1 && r.left[size-1] == 0 || n > uint64(most) {
		r.bad = true
		return 0
	}
	r.left = r.left[size:]
	return int(n)
}

// number takes a number of any kind.
func (r *reader) number() int { return r.uint(1 << 62) }

// int takes a number with a sign.
func (r *reader) int() int {
	n, size := binary.Varint(r.left)
	if r.bad || size <= 0 || size > 1 && r.left[size-1] == 0 {
		r.bad = true
		return 0
	}
	r.left = r.left[size:]
	return int(n)
}

// text takes a text.
func (r *reader) text() []byte {
	n := r.uint(1 << 20)
	if r.bad || n > len(r.left) {
		r.bad = true
		return nil
	}
	x := r.left[:n]
	r.left = r.left[n:]
	return x
}

// parse takes an image's bytes apart, if they are such parts.
func parse(b []byte) (plain, bool) {
	r := &reader{left: b}
	p := plain{config: [4]int{r.number(), r.number(), r.number(), r.number()}}
	for range r.uint(32) {
		p.nodes = append(p.nodes, tree.Node{Id: r.number(), Parent: r.number(), Kind: r.number(), Limit: r.int(), Closed: r.uint(1) == 1})
	}
	for range r.uint(32) {
		p.accounts = append(p.accounts, [6]int{r.number(), r.number(), r.number(), r.number(), r.number(), r.number()})
	}
	p.open = r.number()
	for range r.uint(16384) {
		p.entries = append(p.entries, posted{r.number(), r.text()})
	}
	for range r.uint(8) {
		p.plans = append(p.plans, r.text())
	}
	p.sheet, p.table = r.text(), r.text()
	for range r.uint(32) {
		p.rhythms = append(p.rhythms, [5]int{r.number(), r.number(), r.number(), r.number(), r.number()})
	}
	for range r.uint(16) {
		e := ledger.Past{Number: r.number(), Node: r.number(), Group: r.number(), Period: r.number(), Cost: r.number()}
		for range r.uint(6) {
			e.Lines = append(e.Lines, api.Line{Tier: r.number(), Blocks: r.number(), Price: r.number()})
		}
		e.Back = r.uint(1) == 1
		p.past = append(p.past, e)
	}
	for range r.uint(24) {
		p.known = append(p.known, known{r.number(), r.text()})
	}
	for range r.uint(8) {
		p.ended = append(p.ended, r.number())
	}
	p.events = r.text()
	return p, !r.bad && len(r.left) == 0
}

// rises says whether each of a list is behind the one ahead of it.
func rises[T any](l []T, compare func(a, b T) int) bool {
	for i := 1; i < len(l); i++ {
		if compare(l[i-1], l[i]) >= 0 {
			return false
		}
	}
	return true
}

// stands says whether there is a server whose bytes these are: each part is asked by itself.
func stands(b []byte) bool {
	p, ok := parse(b)
	if !ok || ledger.Check(ledger.Config{Validity: p.config[0], Places: p.config[1], Day: p.config[2]}) != api.OK || p.config[3] > 1<<61 {
		return false
	}
	return p.hasNodes() && p.hasPurse() && p.hasPlans() && p.hasRhythms() && p.hasSessions()
}

func (p plain) hasNodes() bool {
	t := tree.New()
	for _, n := range p.nodes {
		if t.Put(n) != api.OK {
			return false
		}
	}
	return rises(p.nodes, func(a, b tree.Node) int { return cmp.Or(a.Kind-b.Kind, a.Id-b.Id) })
}

func (p plain) hasPurse() bool {
	accounts, entries, periods := map[int]funds.Account{}, []entry.Entry{}, []int{}
	for _, a := range p.accounts {
		accounts[a[0]] = funds.Account{Topped: a[1], Carried: a[2], Expired: a[3], Used: a[4], Held: a[5]}
		if accounts[a[0]] == (funds.Account{}) {
			return false
		}
	}
	for _, x := range p.entries {
		e, err := entry.Read(x.entry)
		if err != api.OK {
			return false
		}
		entries, periods = append(entries, e), append(periods, x.period)
	}
	_, err := period.Restore(accounts, entries, periods, p.open)
	return err == api.OK && rises(p.accounts, func(a, b [6]int) int { return cmp.Compare(a[0], b[0]) })
}

func (p plain) hasPlans() bool {
	var groups []int
	for _, x := range p.plans {
		plan, err := tariff.Read(x)
		if err != api.OK {
			return false
		}
		groups = append(groups, plan.Base.Group)
	}
	_, err := usage.Read(p.sheet)
	return rises(groups, cmp.Compare[int]) && err == api.OK
}

func (p plain) hasRhythms() bool {
	for _, r := range p.rhythms {
		if [4]int(r[1:]) == ([4]int{}) || slices.Max(r[1:]) > 1<<50 {
			return false
		}
	}
	return rises(p.rhythms, func(a, b [5]int) int { return cmp.Compare(a[0], b[0]) })
}

func (p plain) hasSessions() bool {
	table, err := credit.Read(p.table)
	if err != api.OK {
		return false
	}
	var ids []int
	for _, k := range p.known {
		if _, err := window.Read(k.window); err != api.OK {
			return false
		}
		ids = append(ids, k.id)
	}
	for i, id := range p.ended {
		if slices.Contains(p.ended[:i], id) || slices.Contains(table.Ids(), id) || !slices.Contains(ids, id) {
			return false
		}
	}
	for _, id := range table.Ids() {
		if !slices.Contains(ids, id) {
			return false
		}
	}
	_, err = window.Read(p.events)
	return err == api.OK && rises(ids, cmp.Compare[int]) && len(ids) == len(table.Ids())+len(p.ended)
}

// rhythmOf answers a rhythm of these quarters.
func rhythmOf(quarters ...int) rhythm.Rhythm { return rhythm.Rhythm{Quarters: [4]int(quarters)} }
