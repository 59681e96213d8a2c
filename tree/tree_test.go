package tree_test

import (
	"fmt"
	"math"
	"math/rand"
	"reflect"
	"slices"
	"testing"

	"purser/api"
	"purser/tree"
)

const most = 1 << 53

func node(id, parent, kind, limit int) tree.Node {
	return tree.Node{Id: id, Parent: parent, Kind: kind, Limit: limit}
}

func closed(n tree.Node) tree.Node {
	n.Closed = true
	return n
}

// grown answers a tree of these nodes, put one behind the other.
func grown(t *testing.T, nodes ...tree.Node) *tree.Tree {
	t.Helper()
	x := tree.New()
	for _, n := range nodes {
		if err := x.Put(n); err != api.OK {
			t.Fatalf("Put(%+v): %d", n, err)
		}
	}
	return x
}

// some answers a tree that has open and closed nodes of each kind.
func some(t *testing.T) *tree.Tree {
	t.Helper()
	return grown(t,
		node(1, 0, 1, -1), node(2, 1, 2, 50), node(3, 2, 3, 0), closed(node(4, 2, 3, 7)),
		closed(node(5, 1, 2, -1)), closed(node(6, 5, 3, most)),
		closed(node(7, 0, 1, 9)), closed(node(8, 7, 2, -1)),
		node(32, 0, 1, -1), node(31, 32, 2, -1),
	)
}

// answer is what a tree says of an id.
type answer struct {
	node        tree.Node
	path, below string
	errs        [3]api.Errno
}

// told answers all that a tree tells.
func told(x *tree.Tree) (string, map[int]answer) {
	all := map[int]answer{}
	for _, id := range []int{math.MinInt, -1, 0, 33, 34, math.MaxInt} {
		all[id] = ask(x, id)
	}
	for id := range 32 {
		all[id+1] = ask(x, id+1)
	}
	return fmt.Sprint(x.Ids()), all
}

func ask(x *tree.Tree, id int) answer {
	n, err := x.Get(id)
	path, err2 := x.Path(id)
	below, err3 := x.Below(id)
	return answer{n, fmt.Sprint(path), fmt.Sprint(below), [3]api.Errno{err, err2, err3}}
}

// refuses holds that a call answers this error, and that the tree is as it was.
func refuses(t *testing.T, what string, x *tree.Tree, call func() api.Errno, want api.Errno) {
	t.Helper()
	ids, before := told(x)
	if got := call(); got != want {
		t.Errorf("%s: %d, not %d", what, got, want)
	}
	if now, after := told(x); now != ids || !reflect.DeepEqual(after, before) {
		t.Errorf("%s: what is refused has changed the tree", what)
	}
}

// model is nodes by their ids, asked in the plainest way.
type model map[int]tree.Node

// wrong is an error, where it is so.
type wrong struct {
	so  bool
	err api.Errno
}

func first(all ...wrong) api.Errno {
	for _, w := range all {
		if w.so {
			return w.err
		}
	}
	return api.OK
}

func (m model) has(id int) bool { return m[id].Kind != 0 }

func (m model) put(n tree.Node) api.Errno {
	err := first(
		wrong{n.Id < 1 || n.Id > 32 || n.Limit < -1 || n.Limit > most, api.ErrArg},
		wrong{!slices.Contains([]int{1, 2, 3}, n.Kind), api.ErrKind},
		wrong{n.Parent == 0 && n.Kind != 1 || n.Parent != 0 && n.Kind == 1, api.ErrKind},
		wrong{m.has(n.Id), api.ErrThere},
		wrong{n.Parent != 0 && !m.has(n.Parent), api.ErrMiss},
		wrong{n.Parent != 0 && m[n.Parent].Kind+1 != n.Kind, api.ErrKind},
		wrong{n.Parent != 0 && m[n.Parent].Closed && !n.Closed, api.ErrClosed},
	)
	if err == api.OK {
		m[n.Id] = n
	}
	return err
}

func (m model) move(id, parent int) api.Errno {
	n := m[id]
	err := first(
		wrong{!m.has(id), api.ErrMiss},
		wrong{n.Closed, api.ErrClosed},
		wrong{n.Kind == 1, api.ErrKind},
		wrong{!m.has(parent), api.ErrMiss},
		wrong{m[parent].Kind+1 != n.Kind, api.ErrKind},
		wrong{m[parent].Closed, api.ErrClosed},
		wrong{n.Parent == parent, api.ErrThere},
	)
	if err == api.OK {
		n.Parent = parent
		m[id] = n
	}
	return err
}

func (m model) shut(id int) api.Errno {
	busy := false
	for _, n := range m {
		busy = busy || n.Parent == id && !n.Closed
	}
	err := first(wrong{!m.has(id), api.ErrMiss}, wrong{m[id].Closed, api.ErrClosed}, wrong{busy, api.ErrBusy})
	if err == api.OK {
		m[id] = closed(m[id])
	}
	return err
}

func (m model) limit(id, limit int) api.Errno {
	n := m[id]
	err := first(
		wrong{!m.has(id), api.ErrMiss},
		wrong{limit < -1 || limit > most, api.ErrArg},
		wrong{n.Closed, api.ErrClosed},
	)
	if err == api.OK {
		n.Limit = limit
		m[id] = n
	}
	return err
}

func (m model) path(id int) []int {
	if id == 0 {
		return nil
	}
	return append(m.path(m[id].Parent), id)
}

// under answers an id and all that is below, from the top down.
func (m model) under(id int) []int {
	all := []int{id}
	for child, n := range m {
		if n.Parent == id {
			all = append(all, m.under(child)...)
		}
	}
	return all
}

func (m model) told() (string, map[int]answer) {
	all := map[int]answer{}
	var ids []int
	for _, id := range []int{math.MinInt, -1, 0, 33, 34, math.MaxInt} {
		all[id] = answer{tree.Node{}, "[]", "[]", [3]api.Errno{api.ErrMiss, api.ErrMiss, api.ErrMiss}}
	}
	for id := 1; id <= 32; id++ {
		all[id] = all[0]
		if m.has(id) {
			below := m.under(id)
			slices.Sort(below)
			all[id] = answer{m[id], fmt.Sprint(m.path(id)), fmt.Sprint(below), [3]api.Errno{}}
			ids = append(ids, id)
		}
	}
	return fmt.Sprint(ids), all
}

// step does something by chance to a tree and its model, and answers what both say.
func step(r *rand.Rand, x *tree.Tree, m model) (string, api.Errno, api.Errno) {
	ids := []int{0, 1, 2, 3, 4, 5, 6, 7, 8, 9, 30, 31, 32, 33, -1}
	limits := []int{-2, -1, -1, -1, 0, 5, most, most + 1}
	id, parent, limit := ids[r.Intn(len(ids))], ids[r.Intn(len(ids))], limits[r.Intn(len(limits))]
	kind := r.Intn(5)
	if r.Intn(2) == 0 {
		kind = m[parent].Kind + 1
	}
	n := node(id, parent, kind, limit)
	switch r.Intn(7) {
	case 0, 1:
		return fmt.Sprintf("Create(%+v)", n), x.Create(id, parent, kind, limit), m.put(n)
	case 2:
		n.Closed = r.Intn(2) == 0
		return fmt.Sprintf("Put(%+v)", n), x.Put(n), m.put(n)
	case 3, 4:
		return fmt.Sprintf("Move(%d, %d)", id, parent), x.Move(id, parent), m.move(id, parent)
	case 5:
		if r.Intn(3) > 0 {
			return "nothing", api.OK, api.OK
		}
		return fmt.Sprintf("Close(%d)", id), x.Close(id), m.shut(id)
	}
	return fmt.Sprintf("SetLimit(%d, %d)", id, limit), x.SetLimit(id, limit), m.limit(id, limit)
}

func TestP13_1_Example(t *testing.T) {
	x := tree.New()
	for _, n := range []tree.Node{node(1, 0, api.Org, -1), node(2, 1, api.Team, -1), node(3, 2, api.Project, -1)} {
		if err := x.Create(n.Id, n.Parent, n.Kind, n.Limit); err != api.OK {
			t.Fatalf("Create(%+v): %d", n, err)
		}
		if got, err := x.Get(n.Id); got != n || err != api.OK {
			t.Errorf("Get(%d): %+v, %d", n.Id, got, err)
		}
	}
	if path, err := x.Path(3); !slices.Equal(path, []int{1, 2, 3}) || err != api.OK {
		t.Errorf("Path(3): %v, %d", path, err)
	}
	if below, err := x.Below(1); !slices.Equal(below, []int{1, 2, 3}) || err != api.OK {
		t.Errorf("Below(1): %v, %d", below, err)
	}
	refuses(t, "Close(2)", x, func() api.Errno { return x.Close(2) }, api.ErrBusy)
}

func TestP13_1_AgainstAModel(t *testing.T) {
	seen := map[string]int{}
	for seed := range 60 {
		r := rand.New(rand.NewSource(int64(seed)))
		x, m := tree.New(), model{}
		for range 300 {
			what, got, want := step(r, x, m)
			if got != want {
				t.Fatalf("seed %d: %s: %d, not %d", seed, what, got, want)
			}
			seen[fmt.Sprint(what[:3], want)]++
			ids, all := told(x)
			wantIds, wantAll := m.told()
			if ids != wantIds || !reflect.DeepEqual(all, wantAll) {
				t.Fatalf("seed %d: behind %s: %s, %v, not %s, %v", seed, what, ids, all, wantIds, wantAll)
			}
		}
	}
	for what, errs := range map[string][]api.Errno{
		"Cre": {api.OK, api.ErrArg, api.ErrKind, api.ErrThere, api.ErrMiss, api.ErrClosed},
		"Put": {api.OK, api.ErrArg, api.ErrKind, api.ErrThere, api.ErrMiss, api.ErrClosed},
		"Mov": {api.OK, api.ErrMiss, api.ErrClosed, api.ErrKind, api.ErrThere},
		"Clo": {api.OK, api.ErrMiss, api.ErrClosed, api.ErrBusy},
		"Set": {api.OK, api.ErrMiss, api.ErrArg, api.ErrClosed},
	} {
		for _, err := range errs {
			if seen[fmt.Sprint(what, err)] == 0 {
				t.Errorf("no %s came to %d", what, err)
			}
		}
	}
}

func TestP13_1_NewIsEmpty(t *testing.T) {
	for what, x := range map[string]*tree.Tree{"New": tree.New(), "zero value": new(tree.Tree)} {
		ids, all := told(x)
		wantIds, wantAll := model{}.told()
		if ids != wantIds || !reflect.DeepEqual(all, wantAll) {
			t.Errorf("%s: %s, %v", what, ids, all)
		}
		if err := x.Create(32, 0, 1, 0); err != api.OK || !slices.Equal(x.Ids(), []int{32}) {
			t.Errorf("%s: Create: %d, %v", what, err, x.Ids())
		}
	}
}

func TestP13_1_Nil(t *testing.T) {
	var x *tree.Tree
	for _, id := range []int{math.MinInt, -1, 0, 1, 32, 33, math.MaxInt} {
		for what, err := range map[string]api.Errno{
			"Create":   x.Create(id, 0, 1, -1),
			"Kind 4":   x.Create(id, 0, 4, -1),
			"Move":     x.Move(id, 1),
			"Close":    x.Close(id),
			"SetLimit": x.SetLimit(id, 1),
			"Put":      x.Put(node(id, 0, 1, -1)),
			"closed":   x.Put(closed(node(id, 1, 2, -1))),
		} {
			if err != api.ErrArg {
				t.Errorf("%s of %d: %d", what, id, err)
			}
		}
		none := answer{tree.Node{}, "[]", "[]", [3]api.Errno{api.ErrArg, api.ErrArg, api.ErrArg}}
		if got := ask(x, id); got != none {
			t.Errorf("%d: %+v", id, got)
		}
	}
	if ids := x.Ids(); len(ids) != 0 {
		t.Errorf("Ids: %v", ids)
	}
}

// refusals are nodes that Create and Put refuse, two things being wrong at once with many of them.
var refusals = []struct {
	what string
	n    tree.Node
	err  api.Errno
}{
	{"id 0", node(0, 0, 1, -1), api.ErrArg},
	{"id -1", node(-1, 0, 1, -1), api.ErrArg},
	{"id 33", node(33, 0, 1, -1), api.ErrArg},
	{"the least id", node(math.MinInt, 0, 1, -1), api.ErrArg},
	{"the greatest id", node(math.MaxInt, 0, 1, -1), api.ErrArg},
	{"limit -2", node(9, 0, 1, -2), api.ErrArg},
	{"limit 2^53 and 1", node(9, 0, 1, most+1), api.ErrArg},
	{"the least limit", node(9, 0, 1, math.MinInt), api.ErrArg},
	{"the greatest limit", node(9, 0, 1, math.MaxInt), api.ErrArg},
	{"id, and kind 4", node(33, 0, 4, -1), api.ErrArg},
	{"id, and an Org under a node", node(0, 1, 1, -1), api.ErrArg},
	{"id, and no parent there", node(33, 20, 2, -1), api.ErrArg},
	{"id, and a closed parent", node(33, 7, 2, -1), api.ErrArg},
	{"limit, and kind 0", node(9, 0, 0, -2), api.ErrArg},
	{"limit, and it is there", node(1, 0, 1, -2), api.ErrArg},
	{"limit, and no parent there", node(9, 20, 2, most+1), api.ErrArg},
	{"limit, and a parent of its own kind", node(9, 2, 2, most+1), api.ErrArg},
	{"limit, and a closed parent", node(9, 7, 2, -2), api.ErrArg},
	{"kind 0", node(9, 0, 0, -1), api.ErrKind},
	{"kind 4", node(9, 3, 4, -1), api.ErrKind},
	{"kind -1", node(9, 1, -1, -1), api.ErrKind},
	{"kind 4 of no parent", node(9, 0, 4, -1), api.ErrKind},
	{"the least kind", node(9, 1, math.MinInt, -1), api.ErrKind},
	{"the greatest kind", node(9, 1, math.MaxInt, -1), api.ErrKind},
	{"a Team of no parent", node(9, 0, 2, -1), api.ErrKind},
	{"a Project of no parent", node(9, 0, 3, -1), api.ErrKind},
	{"an Org under an Org", node(9, 1, 1, -1), api.ErrKind},
	{"an Org under a Team", node(9, 2, 1, -1), api.ErrKind},
	{"an Org under a Project", node(9, 3, 1, -1), api.ErrKind},
	{"kind 0, and it is there", node(1, 0, 0, -1), api.ErrKind},
	{"kind 4, and it is there", node(3, 2, 4, -1), api.ErrKind},
	{"kind 4, and no parent there", node(9, 20, 4, -1), api.ErrKind},
	{"kind 4, and a closed parent", node(9, 7, 4, -1), api.ErrKind},
	{"an Org under nothing that is there", node(9, 20, 1, -1), api.ErrKind},
	{"an Org that is there, under a node", node(1, 32, 1, -1), api.ErrKind},
	{"an Org under parent -1", node(9, -1, 1, -1), api.ErrKind},
	{"a Team that is there, of no parent", node(2, 0, 2, -1), api.ErrKind},
	{"it is there", node(1, 0, 1, -1), api.ErrThere},
	{"it is there, closed", node(7, 0, 1, -1), api.ErrThere},
	{"it is there, of another kind", node(3, 1, 2, -1), api.ErrThere},
	{"it is there, and no parent is", node(3, 20, 3, -1), api.ErrThere},
	{"it is there, and a parent of another kind", node(3, 1, 3, -1), api.ErrThere},
	{"it is there, and a closed parent", node(3, 5, 3, -1), api.ErrThere},
	{"it is its parent, and there", node(2, 2, 2, -1), api.ErrThere},
	{"no parent there", node(9, 20, 2, -1), api.ErrMiss},
	{"parent -1", node(9, -1, 2, -1), api.ErrMiss},
	{"parent 33", node(9, 33, 2, -1), api.ErrMiss},
	{"the least parent", node(9, math.MinInt, 3, -1), api.ErrMiss},
	{"the greatest parent", node(9, math.MaxInt, 3, -1), api.ErrMiss},
	{"it is its parent", node(9, 9, 2, -1), api.ErrMiss},
	{"a Team under a Team", node(9, 2, 2, -1), api.ErrKind},
	{"a Team under a Project", node(9, 3, 2, -1), api.ErrKind},
	{"a Project under an Org", node(9, 1, 3, -1), api.ErrKind},
	{"a Project under a Project", node(9, 3, 3, -1), api.ErrKind},
	{"a Team under a closed Team", node(9, 5, 2, -1), api.ErrKind},
	{"a Project under a closed Org", node(9, 7, 3, -1), api.ErrKind},
	{"a Team under a closed Org", node(9, 7, 2, -1), api.ErrClosed},
	{"a Project under a closed Team", node(9, 5, 3, -1), api.ErrClosed},
	{"a Project under a closed Team of a closed Org", node(9, 8, 3, -1), api.ErrClosed},
}

func TestP13_1_CreateRefuses(t *testing.T) {
	x := some(t)
	for _, c := range refusals {
		refuses(t, c.what, x, func() api.Errno { return x.Create(c.n.Id, c.n.Parent, c.n.Kind, c.n.Limit) }, c.err)
	}
}

func TestP13_1_PutRefuses(t *testing.T) {
	x := some(t)
	for _, c := range refusals {
		refuses(t, c.what, x, func() api.Errno { return x.Put(c.n) }, c.err)
		if c.err != api.ErrClosed {
			refuses(t, c.what+", closed", x, func() api.Errno { return x.Put(closed(c.n)) }, c.err)
		}
	}
}

func TestP13_1_CreateAndPut(t *testing.T) {
	for _, n := range []tree.Node{
		node(9, 0, 1, -1), node(10, 0, 1, 0), node(11, 0, 1, most), node(12, 1, 2, 1), node(13, 31, 3, most-1), node(30, 2, 3, -1),
	} {
		x, y := some(t), some(t)
		if err := x.Create(n.Id, n.Parent, n.Kind, n.Limit); err != api.OK {
			t.Errorf("Create(%+v): %d", n, err)
		}
		if err := y.Put(n); err != api.OK {
			t.Errorf("Put(%+v): %d", n, err)
		}
		if got, err := x.Get(n.Id); got != n || err != api.OK {
			t.Errorf("Create(%+v) made %+v, %d", n, got, err)
		}
		ids, all := told(x)
		if now, also := told(y); now != ids || !reflect.DeepEqual(all, also) {
			t.Errorf("Put(%+v) made %s, %v, not %s, %v", n, now, also, ids, all)
		}
	}
}

func TestP13_1_PutOfWhatIsClosed(t *testing.T) {
	x := some(t)
	for _, n := range []tree.Node{
		node(9, 0, 1, 3), node(10, 1, 2, -1), node(11, 2, 3, 0), // under none, and under open ones
		node(12, 7, 2, most), node(13, 5, 3, 5), node(14, 12, 3, -1), // under closed ones
	} {
		if err := x.Put(closed(n)); err != api.OK {
			t.Errorf("Put(%+v): %d", n, err)
		}
		if got, err := x.Get(n.Id); got != closed(n) || err != api.OK {
			t.Errorf("Put(%+v) made %+v, %d", n, got, err)
		}
	}
	if path, err := x.Path(14); !slices.Equal(path, []int{7, 12, 14}) || err != api.OK {
		t.Errorf("Path(14): %v, %d", path, err)
	}
	refuses(t, "an open one under what was put closed", x, func() api.Errno { return x.Put(node(15, 10, 3, -1)) }, api.ErrClosed)
}

func TestP13_1_MoveRefuses(t *testing.T) {
	x := some(t)
	for _, c := range []struct {
		what       string
		id, parent int
		err        api.Errno
	}{
		{"id 0", 0, 1, api.ErrMiss},
		{"id 33", 33, 1, api.ErrMiss},
		{"the least id", math.MinInt, 1, api.ErrMiss},
		{"it isn't there", 9, 1, api.ErrMiss},
		{"nor is the parent", 9, 20, api.ErrMiss},
		{"it isn't there, and the parent is closed", 9, 7, api.ErrMiss},
		{"it is closed", 4, 31, api.ErrClosed},
		{"it is closed, and an Org", 7, 1, api.ErrClosed},
		{"it is closed, and the parent isn't there", 4, 20, api.ErrClosed},
		{"it is closed, and the parent of another kind", 4, 1, api.ErrClosed},
		{"it is closed, and its parent", 4, 2, api.ErrClosed},
		{"it is an Org", 1, 32, api.ErrKind},
		{"it is an Org, and the parent isn't there", 1, 0, api.ErrKind},
		{"it is an Org, and the parent is closed", 1, 7, api.ErrKind},
		{"a Team to none", 2, 0, api.ErrMiss},
		{"a Project to what isn't there", 3, 20, api.ErrMiss},
		{"a Project to 33", 3, 33, api.ErrMiss},
		{"a Project to the greatest", 3, math.MaxInt, api.ErrMiss},
		{"a Team under a Team", 2, 31, api.ErrKind},
		{"a Team under a Project", 31, 3, api.ErrKind},
		{"a Team under its Project", 2, 3, api.ErrKind},
		{"a Team under itself", 2, 2, api.ErrKind},
		{"a Team under a closed Team", 2, 5, api.ErrKind},
		{"a Project under an Org", 3, 32, api.ErrKind},
		{"a Project under itself", 3, 3, api.ErrKind},
		{"a Project under a closed Org", 3, 7, api.ErrKind},
		{"a Team under a closed Org", 2, 7, api.ErrClosed},
		{"a Project under a closed Team", 3, 5, api.ErrClosed},
		{"a Team to where it is", 2, 1, api.ErrThere},
		{"a Project to where it is", 3, 2, api.ErrThere},
	} {
		refuses(t, c.what, x, func() api.Errno { return x.Move(c.id, c.parent) }, c.err)
	}
}

func TestP13_1_MoveTakesWhatIsBelowAlong(t *testing.T) {
	x := some(t)
	if err := x.Move(2, 32); err != api.OK {
		t.Fatalf("Move(2, 32): %d", err)
	}
	if n, err := x.Get(2); n != node(2, 32, 2, 50) || err != api.OK {
		t.Errorf("Get(2): %+v, %d", n, err)
	}
	for id, want := range map[int][]int{2: {32, 2}, 3: {32, 2, 3}, 4: {32, 2, 4}, 5: {1, 5}, 31: {32, 31}} {
		if path, err := x.Path(id); !slices.Equal(path, want) || err != api.OK {
			t.Errorf("Path(%d): %v, %d", id, path, err)
		}
	}
	for id, want := range map[int][]int{1: {1, 5, 6}, 2: {2, 3, 4}, 32: {2, 3, 4, 31, 32}} {
		if below, err := x.Below(id); !slices.Equal(below, want) || err != api.OK {
			t.Errorf("Below(%d): %v, %d", id, below, err)
		}
	}
	if err := x.Move(3, 31); err != api.OK {
		t.Fatalf("Move(3, 31): %d", err)
	}
	if below, _ := x.Below(31); !slices.Equal(below, []int{3, 31}) {
		t.Errorf("Below(31): %v", below)
	}
	if err := x.Move(2, 1); err != api.OK {
		t.Fatalf("Move(2, 1): %d", err)
	}
	if below, _ := x.Below(1); !slices.Equal(below, []int{1, 2, 4, 5, 6}) {
		t.Errorf("Below(1): %v", below)
	}
}

func TestP13_1_Close(t *testing.T) {
	x := some(t)
	for _, c := range []struct {
		what string
		id   int
		err  api.Errno
	}{
		{"id 0", 0, api.ErrMiss},
		{"id 33", 33, api.ErrMiss},
		{"the greatest id", math.MaxInt, api.ErrMiss},
		{"the least id", math.MinInt, api.ErrMiss},
		{"it isn't there", 9, api.ErrMiss},
		{"a closed Org", 7, api.ErrClosed},
		{"a closed Team", 5, api.ErrClosed},
		{"a closed Project", 4, api.ErrClosed},
		{"an Org over an open Team and a closed one", 1, api.ErrBusy},
		{"a Team over an open Project and a closed one", 2, api.ErrBusy},
		{"an Org over one open Team", 32, api.ErrBusy},
	} {
		refuses(t, c.what, x, func() api.Errno { return x.Close(c.id) }, c.err)
	}
	// From the bottom up, behind those under it, each can be closed: what is closed under it doesn't count.
	for _, id := range []int{3, 2, 1, 31, 32} {
		before, _ := x.Get(id)
		if err := x.Close(id); err != api.OK {
			t.Errorf("Close(%d): %d", id, err)
		}
		if n, err := x.Get(id); n != closed(before) || err != api.OK {
			t.Errorf("Close(%d) made %+v, %d", id, n, err)
		}
		refuses(t, "once more", x, func() api.Errno { return x.Close(id) }, api.ErrClosed)
	}
	if ids := x.Ids(); !slices.Equal(ids, []int{1, 2, 3, 4, 5, 6, 7, 8, 31, 32}) {
		t.Errorf("Ids: %v", ids)
	}
}

func TestP13_1_SetLimit(t *testing.T) {
	x := some(t)
	for _, c := range []struct {
		what      string
		id, limit int
		err       api.Errno
	}{
		{"id 0", 0, 1, api.ErrMiss},
		{"id 33", 33, 1, api.ErrMiss},
		{"the least id", math.MinInt, 1, api.ErrMiss},
		{"it isn't there", 9, 1, api.ErrMiss},
		{"it isn't there, and limit -2", 9, -2, api.ErrMiss},
		{"limit -2", 1, -2, api.ErrArg},
		{"limit 2^53 and 1", 1, most + 1, api.ErrArg},
		{"the least limit", 1, math.MinInt, api.ErrArg},
		{"the greatest limit", 1, math.MaxInt, api.ErrArg},
		{"limit -2 of what is closed", 4, -2, api.ErrArg},
		{"limit 2^53 and 1 of what is closed", 7, most + 1, api.ErrArg},
		{"it is closed", 4, 1, api.ErrClosed},
		{"it is closed, and that is its limit", 4, 7, api.ErrClosed},
	} {
		refuses(t, c.what, x, func() api.Errno { return x.SetLimit(c.id, c.limit) }, c.err)
	}
	for _, id := range []int{1, 2, 3} {
		for _, limit := range []int{-1, 0, 1, most, most, -1} {
			want, _ := x.Get(id)
			want.Limit = limit
			if err := x.SetLimit(id, limit); err != api.OK {
				t.Errorf("SetLimit(%d, %d): %d", id, limit, err)
			}
			if n, err := x.Get(id); n != want || err != api.OK {
				t.Errorf("SetLimit(%d, %d) made %+v, %d", id, limit, n, err)
			}
		}
	}
}

func TestP13_1_AsManyNodesAsThereAre(t *testing.T) {
	x := tree.New()
	var ids []int
	for id := 32; id >= 1; id-- {
		if err := x.Create(id, 0, 1, id); err != api.OK {
			t.Fatalf("Create(%d): %d", id, err)
		}
		ids = append(ids, 33-id)
	}
	if got := x.Ids(); !slices.Equal(got, ids) {
		t.Errorf("Ids: %v", got)
	}
	refuses(t, "one more", x, func() api.Errno { return x.Create(33, 0, 1, -1) }, api.ErrArg)
}

func TestP13_2_PathsAndWhatIsBelow(t *testing.T) {
	nodes := 0
	for seed := range 200 {
		r := rand.New(rand.NewSource(int64(1000 + seed)))
		x, m := tree.New(), model{}
		for range 200 {
			step(r, x, m)
		}
		for _, id := range x.Ids() {
			n, _ := x.Get(id)
			path, err := x.Path(id)
			if err != api.OK || len(path) != n.Kind || path[len(path)-1] != id {
				t.Fatalf("seed %d: Path(%d) of %+v: %v, %d", seed, id, n, path, err)
			}
			for i, on := range path {
				if above, err := x.Get(on); err != api.OK || above.Kind != i+1 || i > 0 && above.Parent != path[i-1] {
					t.Fatalf("seed %d: Path(%d) = %v: at %d is %+v", seed, id, path, i, above)
				}
			}
			for _, other := range x.Ids() {
				below, _ := x.Below(other)
				if slices.Contains(below, id) != slices.Contains(path, other) {
					t.Fatalf("seed %d: Path(%d) = %v, Below(%d) = %v", seed, id, path, other, below)
				}
				if !slices.IsSorted(below) || len(slices.Compact(slices.Clone(below))) != len(below) {
					t.Fatalf("seed %d: Below(%d) = %v", seed, other, below)
				}
			}
			nodes++
		}
	}
	if nodes < 300 {
		t.Errorf("%d nodes alone", nodes)
	}
}

func TestP13_3_AnswersAreNewMemory(t *testing.T) {
	x := some(t)
	for what, ask := range map[string]func() []int{
		"Ids":   x.Ids,
		"Path":  func() []int { l, _ := x.Path(3); return l },
		"Below": func() []int { l, _ := x.Below(1); return l },
	} {
		ids, before := told(x)
		one, two := ask(), ask()
		want := slices.Clone(two)
		_ = append(one, 77)
		clear(one[:cap(one)])
		if !slices.Equal(two, want) || !slices.Equal(ask(), want) {
			t.Errorf("%s is %v now, and %v", what, two, ask())
		}
		if now, after := told(x); now != ids || !reflect.DeepEqual(after, before) {
			t.Errorf("the tree has changed with its %s", what)
		}
	}
}

func TestP13_3_TreesAreApart(t *testing.T) {
	x, y := some(t), some(t)
	ids, before := told(y)
	x.Close(3)
	x.Move(2, 32)
	x.Create(9, 0, 1, -1)
	x.SetLimit(1, 4)
	if now, after := told(y); now != ids || !reflect.DeepEqual(after, before) {
		t.Errorf("one tree has changed with another one")
	}
	if now, _ := told(tree.New()); now != "[]" {
		t.Errorf("a new tree has %s", now)
	}
}
