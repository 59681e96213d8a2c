package ledger_test

import (
	"encoding/binary"
	"maps"
	"slices"
	"testing"

	"purser/api"
	"purser/credit"
	"purser/entry"
	"purser/funds"
	"purser/grant"
	"purser/ledger"
	"purser/rhythm"
	"purser/tariff"
	"purser/tree"
	"purser/usage"
	"purser/wire"
)

type (
	request = wire.Request
	answer  = wire.Answer
	item    = wire.Item
	one     = grant.Grant
)

const (
	maxAmount = 1 << 53
	maxUnits  = 1 << 30
	maxNow    = 1 << 61
)

// node is a node of the model, and what it has.
type node struct {
	tree.Node
	funds.Account
}

func (n *node) available() int { return n.Topped + n.Carried - n.Expired - n.Used - n.Held }

// post is an entry of the model's journal.
type post struct {
	kind, amount, group, period int
	path                        []int
}

// model is the machine of the chapters, told as plainly as can be: for few units and few nodes.
type model struct {
	config          ledger.Config
	now, open, last int
	nodes           map[int]*node
	plans           map[int]tariff.Plan
	sessions        map[int]credit.Session
	rows            map[usage.Row]int
	posts           []post
	rhythms         map[int]rhythm.Rhythm
	past            []ledger.Past
}

func empty(c ledger.Config) *model {
	return &model{
		config: c, nodes: map[int]*node{}, plans: map[int]tariff.Plan{}, sessions: map[int]credit.Session{},
		rows: map[usage.Row]int{}, rhythms: map[int]rhythm.Rhythm{},
	}
}

func within(n, least, most int) bool { return n >= least && n <= most }

// path answers the nodes from the top down to one.
func (m *model) path(id int) []*node {
	n := m.nodes[id]
	if n.Parent == 0 {
		return []*node{n}
	}
	return append(m.path(n.Parent), n)
}

// below answers a node and all under it, rising.
func (m *model) below(id int) []int {
	var l []int
	for other := range m.nodes {
		if slices.Contains(m.path(other), m.nodes[id]) {
			l = append(l, other)
		}
	}
	slices.Sort(l)
	return l
}

// move changes what the nodes of a path have, and posts that.
func (m *model) move(kind, amount int, path []*node, group int) {
	if amount <= 0 {
		return
	}
	p := post{kind: kind, amount: amount, group: group, period: m.open}
	for _, n := range path {
		p.path = append(p.path, n.Id)
		switch kind {
		case entry.TopUp:
			n.Topped += amount
		case entry.Hold:
			n.Held += amount
		case entry.Release:
			n.Held -= amount
		case entry.Commit:
			n.Held, n.Used = n.Held-amount, n.Used+amount
		case entry.Refund:
			n.Used -= amount
		case entry.Expire:
			n.Expired += amount
		}
	}
	m.posts = append(m.posts, p)
}

// full says whether the ledger is nearly full.
func (m *model) full() bool { return len(m.posts) > 15872 || len(m.rows) > 3584 }

// position answers how many blocks of a group a project used.
func (m *model) position(project, group int) int {
	n := 0
	for r, blocks := range m.rows {
		if r.Period == m.open && r.Node == project && r.Group == group {
			n += blocks
		}
	}
	return n
}

// tariff answers a group's tariff at this time.
func (m *model) tariff(group int) api.Tariff {
	p := m.plans[group]
	if p.Day == 0 {
		return p.Base
	}
	// The other one begins at From, and lasts till To comes.
	for hour := p.From; hour != p.To; hour = (hour + 1) % p.Day {
		if hour == m.now%p.Day {
			return p.Other
		}
	}
	return p.Base
}

// blocks answers how many blocks hold so many units.
func blocks(units, block int) int {
	n := 0
	for n*block < units {
		n++
	}
	return n
}

// tierOf answers in which tier a block is.
func tierOf(t api.Tariff, block int) int {
	for i, tier := range t.Tiers {
		if tier.Upto == 0 || block <= tier.Upto {
			return i
		}
	}
	return -1
}

// rated answers the lines of so many units, block by block, and what they cost.
func (m *model) rated(project, group, units int) ([]api.Line, int, int) {
	t := m.tariff(group)
	position, count := m.position(project, group), blocks(units, t.Block)
	var lines []api.Line
	cost := 0
	for i := 1; i <= count; i++ {
		k := tierOf(t, position+i)
		if t.Mode == api.Volume {
			k = tierOf(t, position+count)
		}
		cost += t.Tiers[k].Price
		if n := len(lines); n > 0 && lines[n-1].Tier == k {
			lines[n-1].Blocks++
		} else {
			lines = append(lines, api.Line{Tier: k, Blocks: 1, Price: t.Tiers[k].Price})
		}
	}
	return lines, cost, count
}

// worst answers what so many units may cost at most.
func (m *model) worst(group, units int) int {
	p, dearest := m.plans[group], 0
	for _, t := range slices.Concat(p.Base.Tiers, p.Other.Tiers) {
		dearest = max(dearest, t.Price)
	}
	return blocks(units, p.Base.Block) * dearest
}

// room answers how much can be held for a project.
func (m *model) room(project int) int {
	room := maxAmount
	for _, n := range m.path(project) {
		room = min(room, n.available())
		if n.Limit >= 0 {
			room = min(room, max(0, n.Limit-n.Used-n.Held))
		}
	}
	return room
}

// fit answers what a project's credit does for.
func (m *model) fit(project int, items []item) ([]one, api.Errno) {
	room, some := m.room(project), false
	var l []one
	for _, x := range items {
		units := x.Want
		for units > 0 && m.worst(x.Group, units) > room {
			units--
		}
		g := one{Group: x.Group, Units: units, Amount: m.worst(x.Group, units), Final: units < x.Want}
		some, room = some || units > 0, room-g.Amount
		l = append(l, g)
	}
	if !some {
		return nil, api.ErrCredit
	}
	return l, api.OK
}

// hold holds grants one by one.
func (m *model) hold(project int, l []one) {
	for _, g := range l {
		m.move(entry.Hold, g.Amount, m.path(project), 0)
	}
}

// settle settles a session's grants, and answers what all cost.
func (m *model) settle(s credit.Session, items []item) int {
	all := 0
	for _, g := range s.Grants {
		used := 0
		for _, x := range items {
			if x.Group == g.Group {
				used = x.Used
			}
		}
		lines, cost, count := m.rated(s.Node, g.Group, used)
		m.move(entry.Commit, cost, m.path(s.Node), g.Group)
		m.move(entry.Release, g.Amount-cost, m.path(s.Node), 0)
		m.note(s.Node, g.Group, lines, count)
		all += cost
	}
	return all
}

// note notes what was used.
func (m *model) note(project, group int, lines []api.Line, count int) {
	for _, x := range lines {
		m.rows[usage.Row{Period: m.open, Node: project, Group: group, Tier: x.Tier, Price: x.Price}] += x.Blocks
	}
	r := m.rhythms[project]
	r.Quarters[m.now%m.config.Day*4/m.config.Day] += count
	if r != (rhythm.Rhythm{}) {
		m.rhythms[project] = r
	}
}

// project answers what is wrong with a request's node.
func (m *model) project(id int) api.Errno {
	n := m.nodes[id]
	switch {
	case n == nil:
		return api.ErrMiss
	case n.Kind != api.Project:
		return api.ErrKind
	case n.Closed:
		return api.ErrClosed
	}
	return api.OK
}

// groups answers what is wrong with the groups that something is wanted of.
func (m *model) groups(project int, items []item) api.Errno {
	for _, x := range items {
		if _, ok := m.plans[x.Group]; !ok {
			return api.ErrMiss
		}
	}
	for _, x := range items {
		if m.position(project, x.Group) > 1<<39 {
			return api.ErrOver
		}
	}
	return api.OK
}

// unlike says whether there are at most four items, all of unlike groups.
func unlike(items []item) bool {
	groups := map[int]bool{}
	for _, x := range items {
		groups[x.Group] = true
	}
	return len(items) <= 4 && len(groups) == len(items)
}

// each says whether something holds of each item.
func each(items []item, holds func(x item) bool) bool {
	for _, x := range items {
		if !holds(x) {
			return false
		}
	}
	return true
}

// step answers what is wrong with a session's request, and the session.
func (m *model) step(r request) (credit.Session, api.Errno) {
	s, ok := m.sessions[r.Session]
	switch {
	case !ok:
		return s, api.ErrMiss
	case r.Number != s.Number+1:
		return s, api.ErrOrder
	case !unlike(r.Items) || !each(r.Items, func(x item) bool { return within(x.Used, 0, maxUnits) }):
		return s, api.ErrArg
	case r.Kind == wire.Update && !each(r.Items, func(x item) bool { return within(x.Want, 0, maxUnits) }):
		return s, api.ErrArg
	}
	for _, x := range r.Items {
		granted := 0
		for _, g := range s.Grants {
			if g.Group == x.Group {
				granted = g.Units
			}
		}
		if x.Used > granted {
			return s, api.ErrUsed
		}
	}
	return s, api.OK
}

func (m *model) initial(r request) (answer, api.Errno) {
	if err := m.project(r.Node); err != api.OK {
		return answer{}, err
	}
	if len(r.Items) == 0 || !unlike(r.Items) || !each(r.Items, func(x item) bool { return within(x.Want, 1, maxUnits) }) {
		return answer{}, api.ErrArg
	}
	if err := m.groups(r.Node, r.Items); err != api.OK {
		return answer{}, err
	}
	switch {
	case !within(r.Session, 1, 1<<62):
		return answer{}, api.ErrArg
	case r.Session <= m.last:
		return answer{}, api.ErrStale
	case m.full() || len(m.sessions) == m.config.Places:
		return answer{}, api.ErrFull
	}
	l, err := m.fit(r.Node, r.Items)
	if err != api.OK {
		return answer{}, err
	}
	m.hold(r.Node, l)
	m.last = r.Session
	m.sessions[r.Session] = credit.Session{Id: r.Session, Node: r.Node, Deadline: m.now + m.config.Validity, Grants: l}
	return answer{Grants: l, Deadline: m.now + m.config.Validity}, api.OK
}

func (m *model) update(r request) (answer, api.Errno) {
	s, err := m.step(r)
	if err != api.OK {
		return answer{}, err
	}
	var wanted []item
	for _, x := range r.Items {
		if x.Want > 0 {
			wanted = append(wanted, x)
		}
	}
	if err := m.groups(s.Node, wanted); err != api.OK {
		return answer{}, err
	}
	cost := m.settle(s, r.Items)
	l, err := m.fit(s.Node, wanted)
	if err != api.OK || m.nodes[s.Node].Closed || m.full() {
		l = nil
		for _, x := range wanted {
			l = append(l, one{Group: x.Group, Final: true})
		}
	}
	m.hold(s.Node, l)
	s.Number, s.Grants, s.Deadline = r.Number, l, m.now+m.config.Validity
	m.sessions[s.Id] = s
	return answer{Grants: l, Deadline: s.Deadline, Cost: cost}, api.OK
}

func (m *model) terminate(r request) (answer, api.Errno) {
	s, err := m.step(r)
	if err != api.OK {
		return answer{}, err
	}
	cost := m.settle(s, r.Items)
	delete(m.sessions, s.Id)
	return answer{Cost: cost}, api.OK
}

func (m *model) event(r request) (answer, api.Errno) {
	if err := m.project(r.Node); err != api.OK {
		return answer{}, err
	}
	if !within(r.Units, 1, maxUnits) {
		return answer{}, api.ErrArg
	}
	if err := m.groups(r.Node, []item{{Group: r.Group}}); err != api.OK {
		return answer{}, err
	}
	if m.full() {
		return answer{}, api.ErrFull
	}
	lines, cost, count := m.rated(r.Node, r.Group, r.Units)
	for _, n := range m.path(r.Node) {
		if cost > 0 && n.available() < cost {
			return answer{}, api.ErrCredit
		}
		if cost > 0 && n.Limit >= 0 && n.Used+n.Held+cost > n.Limit {
			return answer{}, api.ErrLimit
		}
	}
	m.move(entry.Hold, cost, m.path(r.Node), 0)
	m.move(entry.Commit, cost, m.path(r.Node), r.Group)
	m.note(r.Node, r.Group, lines, count)
	m.past = append(m.past, ledger.Past{Number: r.Number, Node: r.Node, Group: r.Group, Period: m.open, Cost: cost, Lines: lines})
	m.past = m.past[max(0, len(m.past)-16):]
	return answer{Cost: cost}, api.OK
}

func (m *model) refund(r request) (answer, api.Errno) {
	var e *ledger.Past
	for i := range m.past {
		if m.past[i].Number == r.Of {
			e = &m.past[i]
		}
	}
	switch {
	case e == nil || e.Period < m.open:
		return answer{}, api.ErrStale
	case e.Back:
		return answer{}, api.ErrThere
	case m.full():
		return answer{}, api.ErrFull
	}
	m.move(entry.Refund, e.Cost, m.path(e.Node), e.Group)
	for _, x := range e.Lines {
		row := usage.Row{Period: m.open, Node: e.Node, Group: e.Group, Tier: x.Tier, Price: x.Price}
		m.rows[row] -= x.Blocks
		if m.rows[row] == 0 {
			delete(m.rows, row)
		}
	}
	e.Back = true
	return answer{Cost: e.Cost}, api.OK
}

func (m *model) create(r request) api.Errno {
	above := m.nodes[r.Parent]
	switch {
	case !within(r.Node, 1, 32) || !within(r.Limit, -1, maxAmount):
		return api.ErrArg
	case !within(r.Sort, 1, 3) || (r.Parent == 0) != (r.Sort == api.Org):
		return api.ErrKind
	case m.nodes[r.Node] != nil:
		return api.ErrThere
	case r.Parent != 0 && above == nil:
		return api.ErrMiss
	case r.Parent != 0 && above.Kind != r.Sort-1:
		return api.ErrKind
	case r.Parent != 0 && above.Closed:
		return api.ErrClosed
	}
	m.nodes[r.Node] = &node{Node: tree.Node{Id: r.Node, Parent: r.Parent, Kind: r.Sort, Limit: r.Limit}}
	return api.OK
}

func (m *model) moveNode(r request) api.Errno {
	n, above := m.nodes[r.Node], m.nodes[r.Parent]
	switch {
	case n == nil:
		return api.ErrMiss
	case n.Used > 0 || n.Held > 0:
		return api.ErrBusy
	case n.Closed:
		return api.ErrClosed
	case n.Kind == api.Org:
		return api.ErrKind
	case above == nil:
		return api.ErrMiss
	case above.Kind != n.Kind-1:
		return api.ErrKind
	case above.Closed:
		return api.ErrClosed
	case n.Parent == r.Parent:
		return api.ErrThere
	}
	n.Parent = r.Parent
	return api.OK
}

func (m *model) shut(r request) api.Errno {
	n := m.nodes[r.Node]
	switch {
	case n == nil:
		return api.ErrMiss
	case n.Held > 0:
		return api.ErrBusy
	case n.Closed:
		return api.ErrClosed
	}
	for _, other := range m.nodes {
		if other.Parent == r.Node && !other.Closed {
			return api.ErrBusy
		}
	}
	n.Closed = true
	return api.OK
}

func (m *model) limit(r request) api.Errno {
	n := m.nodes[r.Node]
	switch {
	case n == nil:
		return api.ErrMiss
	case !within(r.Limit, -1, maxAmount):
		return api.ErrArg
	case n.Closed:
		return api.ErrClosed
	}
	n.Limit = r.Limit
	return api.OK
}

func (m *model) topUp(r request) api.Errno {
	n := m.nodes[r.Node]
	switch {
	case n == nil:
		return api.ErrMiss
	case n.Closed:
		return api.ErrClosed
	case m.full():
		return api.ErrFull
	case !within(r.Amount, 1, maxAmount):
		return api.ErrArg
	case n.Topped+n.Carried+r.Amount > maxAmount:
		return api.ErrOver
	}
	cash := r.Amount
	for _, p := range m.posts {
		if p.kind == entry.TopUp {
			cash += p.amount
		}
	}
	if cash > 1<<60 {
		return api.ErrOver
	}
	m.move(entry.TopUp, r.Amount, []*node{n}, 0)
	return api.OK
}

func (m *model) price(r request) api.Errno {
	if tariff.CheckPlan(r.Plan) != api.OK {
		return api.ErrArg
	}
	for _, s := range m.sessions {
		for _, g := range s.Grants {
			if g.Group == r.Plan.Base.Group {
				return api.ErrBusy
			}
		}
	}
	m.plans[r.Plan.Base.Group] = r.Plan
	return api.OK
}

func (m *model) roll(r request) (answer, api.Errno) {
	if m.full() || m.open == 31 {
		return answer{}, api.ErrFull
	}
	expired := 0
	for _, id := range slices.Sorted(maps.Keys(m.nodes)) {
		n := m.nodes[id]
		if !slices.Contains(r.Carry, id) {
			expired += n.available()
			m.move(entry.Expire, n.available(), []*node{n}, 0)
		}
		n.Account = funds.Account{Carried: n.Topped + n.Carried - n.Expired - n.Used, Held: n.Held}
	}
	m.open++
	clear(m.rhythms)
	return answer{Expired: expired}, api.OK
}

func (m *model) bill(r request) (answer, api.Errno) {
	switch {
	case m.nodes[r.Node] == nil || r.Period >= m.open:
		return answer{}, api.ErrMiss
	case r.Period < 0:
		return answer{}, api.ErrArg
	}
	l := m.sheet(func(x usage.Row) bool { return x.Period == r.Period && slices.Contains(m.below(r.Node), x.Node) })
	numbers := []int{r.Node, r.Period, len(l)}
	for _, x := range l {
		numbers = append(numbers, x.Node, x.Group, x.Tier, x.Price, x.Blocks)
	}
	var b []byte
	for _, n := range numbers {
		b = binary.AppendUvarint(b, uint64(n))
	}
	return answer{Invoice: b}, api.OK
}

// sheet answers the rows that are asked for, in order.
func (m *model) sheet(asked func(r usage.Row) bool) []usage.Row {
	var l []usage.Row
	for r, blocks := range m.rows {
		r.Blocks = blocks
		if asked(r) {
			l = append(l, r)
		}
	}
	slices.SortFunc(l, func(a, b usage.Row) int {
		return slices.Compare([]int{a.Period, a.Node, a.Group, a.Tier, a.Price}, []int{b.Period, b.Node, b.Group, b.Tier, b.Price})
	})
	return l
}

// do does a request.
func (m *model) do(r request) answer {
	a, err := m.done(r)
	if err != api.OK {
		a = answer{Err: err}
	}
	if within(r.Kind, 1, 14) {
		a.Kind = r.Kind
	}
	return a
}

func (m *model) done(r request) (answer, api.Errno) {
	switch r.Kind {
	case wire.Initial:
		return m.initial(r)
	case wire.Update:
		return m.update(r)
	case wire.Terminate:
		return m.terminate(r)
	case wire.Event:
		return m.event(r)
	case wire.Refund:
		return m.refund(r)
	case wire.Create:
		return answer{}, m.create(r)
	case wire.Move:
		return answer{}, m.moveNode(r)
	case wire.Shut:
		return answer{}, m.shut(r)
	case wire.Limit:
		return answer{}, m.limit(r)
	case wire.TopUp:
		return answer{}, m.topUp(r)
	case wire.Price:
		return answer{}, m.price(r)
	case wire.Roll:
		return m.roll(r)
	case wire.Balance:
		n := m.nodes[r.Node]
		if n == nil {
			return answer{}, api.ErrMiss
		}
		return answer{Account: n.Account, Available: n.available()}, api.OK
	case wire.Bill:
		return m.bill(r)
	}
	return answer{}, api.ErrForm
}

// tick lets time go on: who is over, is asked for time by time.
func (m *model) tick() []int {
	m.now++
	var over []int
	for deadline := m.now - m.config.Validity - 3; deadline < m.now; deadline++ {
		for _, id := range slices.Sorted(maps.Keys(m.sessions)) {
			s := m.sessions[id]
			if s.Deadline != deadline {
				continue
			}
			held := 0
			for _, g := range s.Grants {
				held += g.Amount
			}
			m.move(entry.Release, held, m.path(s.Node), 0)
			delete(m.sessions, id)
			over = append(over, id)
		}
	}
	return over
}

// agrees holds that a ledger is what the model says; of its journal all behind the first entries is asked.
func agrees(t *testing.T, what string, l *ledger.Ledger, m *model, first int) {
	t.Helper()
	if l.Now() != m.now || l.Config() != m.config {
		t.Fatalf("%s: the time %d, %+v, not %d, %+v", what, l.Now(), l.Config(), m.now, m.config)
	}
	agreeNodes(t, what, l, m)
	j := l.Purse().Journal()
	if j.Len() != len(m.posts) || j.Period() != m.open {
		t.Fatalf("%s: %d entries, period %d, not %d, %d", what, j.Len(), j.Period(), len(m.posts), m.open)
	}
	for i := min(first, len(m.posts)); i < len(m.posts); i++ {
		p := m.posts[i]
		want, _ := entry.Make(p.kind, p.amount, p.path, p.group)
		if e, period, _ := j.At(i); e.Kind != want.Kind || !slices.Equal(e.Legs, want.Legs) || period != p.period {
			t.Fatalf("%s: entry %d: %v in period %d, not %+v", what, i, e, period, p)
		}
	}
	agreeUsage(t, what, l, m)
	if got := l.Table().Ids(); !slices.Equal(got, slices.Sorted(maps.Keys(m.sessions))) || l.Table().Last() != m.last {
		t.Fatalf("%s: the sessions %v, last %d, not %v, %d", what, got, l.Table().Last(), m.sessions, m.last)
	}
	for id, want := range m.sessions {
		s, _ := l.Table().Get(id)
		if s.Node != want.Node || s.Number != want.Number || s.Deadline != want.Deadline || !slices.Equal(s.Grants, want.Grants) {
			t.Fatalf("%s: the session %+v, not %+v", what, s, want)
		}
	}
}

// agreeNodes holds that the nodes, and what they have, are what the model says, and that each holds what those below it hold.
func agreeNodes(t *testing.T, what string, l *ledger.Ledger, m *model) {
	t.Helper()
	if got := l.Tree().Ids(); !slices.Equal(got, slices.Sorted(maps.Keys(m.nodes))) {
		t.Fatalf("%s: the nodes %v", what, got)
	}
	for id, n := range m.nodes {
		if got, _ := l.Tree().Get(id); got != n.Node {
			t.Fatalf("%s: node %+v, not %+v", what, got, n.Node)
		}
		if got := l.Purse().Get(id); got != n.Account || l.Purse().Available(id) != n.available() {
			t.Fatalf("%s: node %d has %+v, not %+v", what, id, got, n.Account)
		}
		held := 0
		for _, under := range m.below(id) {
			held += l.Table().Held(under)
		}
		if n.Held != held || n.Held < 0 || n.available() < 0 {
			t.Fatalf("%s: at node %d %d are held, but for the sessions below it %d; %d are available", what, id, n.Held, held, n.available())
		}
	}
}

// agreeUsage holds that what was used, plans, rhythms and past events are what the model says.
func agreeUsage(t *testing.T, what string, l *ledger.Ledger, m *model) {
	t.Helper()
	var rows []usage.Row
	for period := range 32 {
		rows = append(rows, l.Sheet().Rows(period, slices.Collect(maps.Keys(m.nodes)))...)
	}
	if want := m.sheet(func(usage.Row) bool { return true }); !slices.Equal(rows, want) || l.Sheet().Len() != len(want) {
		t.Fatalf("%s: the rows %v, not %v", what, rows, want)
	}
	for group := -1; group <= 10; group++ {
		p, ok := l.Plan(group)
		if want, there := m.plans[group]; ok != there || !samePlan(p, want) {
			t.Fatalf("%s: the plan %+v, %t, not %+v", what, p, ok, want)
		}
	}
	for id := -1; id <= 33; id++ {
		if got := l.Rhythm(id); got != m.rhythms[id] {
			t.Fatalf("%s: the rhythm %v of %d, not %v", what, got, id, m.rhythms[id])
		}
	}
	if got := l.Past(); !slices.EqualFunc(got, m.past, samePast) {
		t.Fatalf("%s: the past %+v, not %+v", what, got, m.past)
	}
}

// samePlan says whether both plans are one.
func samePlan(a, b tariff.Plan) bool {
	return a.Day == b.Day && a.From == b.From && a.To == b.To && tariff.Same(a.Base, b.Base) && tariff.Same(a.Other, b.Other)
}

// samePast says whether both events are one.
func samePast(a, b ledger.Past) bool {
	x, y := a, b
	x.Lines, y.Lines = nil, nil
	return slices.Equal(a.Lines, b.Lines) && x.Number == y.Number && x.Node == y.Node && x.Group == y.Group &&
		x.Period == y.Period && x.Cost == y.Cost && x.Back == y.Back
}

// sameAnswer says whether both answers are one.
func sameAnswer(a, b answer) bool {
	return a.Kind == b.Kind && a.Err == b.Err && slices.Equal(a.Grants, b.Grants) && a.Deadline == b.Deadline && a.Cost == b.Cost &&
		a.Expired == b.Expired && a.Available == b.Available && a.Account == b.Account && slices.Equal(a.Invoice, b.Invoice)
}
