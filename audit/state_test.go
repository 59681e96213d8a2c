package audit

import (
	"slices"
	"testing"

	"purser/api"
	"purser/ledger"
	"purser/tree"
)

// What no parts can be made to is held to here: a journal takes no entry whose legs don't come to nought, funds no account that
// is below 0, and a tree nothing that is open under what is closed.

func TestP27_1_UnlikeSums(t *testing.T) {
	for _, c := range []struct {
		debits, credits int
		err             api.Errno
		want            []Finding
	}{
		{0, 0, api.OK, nil},
		{7, 7, api.OK, nil},
		{7, 8, api.OK, []Finding{{Balance, 0}}},
		{8, 7, api.OK, []Finding{{Balance, 0}}},
		{0, 0, api.ErrOver, nil},
		{7, 8, api.ErrOver, nil},
		{7, 8, api.ErrArg, nil},
	} {
		if got := ofTrial(c.debits, c.credits, c.err); !slices.Equal(got, c.want) {
			t.Errorf("%+v: %v", c, got)
		}
	}
}

func TestP27_1_FindingsOfAState(t *testing.T) {
	right := state{
		id: 9, isProject: true, isOpen: true, available: 50, held: 30, used: 14, funds: 50, kept: 30, granted: 30, charged: 14, isCharged: true,
	}
	for what, c := range map[string]struct {
		spoil func(s *state)
		want  []int
	}{
		"all is right":                        {func(s *state) {}, nil},
		"available below":                     {func(s *state) { s.available, s.funds = -1, -1 }, []int{Below}},
		"held below":                          {func(s *state) { s.held, s.kept, s.granted = -1, -1, -1 }, []int{Below}},
		"both below":                          {func(s *state) { s.available, s.funds, s.held, s.kept, s.granted = -1, -1, -1, -1, -1 }, []int{Below}},
		"neither is any":                      {func(s *state) { s.available, s.funds, s.held, s.kept, s.granted = 0, 0, 0, 0, 0 }, nil},
		"below, and the journal says another": {func(s *state) { s.available = -1 }, []int{Balance, Below}},
		"the journal is below":                {func(s *state) { s.funds = -50 }, []int{Balance}},
		"held below what sessions hold":       {func(s *state) { s.held, s.kept = -30, -30 }, []int{Below, Holding}},
		"another is held":                     {func(s *state) { s.held = 29 }, []int{Balance, Holding}},
		"another was used":                    {func(s *state) { s.used = 13 }, []int{Using}},
		"another was used by no project":      {func(s *state) { s.used, s.isProject = 13, false }, nil},
		"rows of no int":                      {func(s *state) { s.used, s.charged, s.isCharged = 0, 0, false }, []int{Using}},
		"under a closed one":                  {func(s *state) { s.isUnderClosed = true }, []int{Path}},
		"closed under a closed one":           {func(s *state) { s.isUnderClosed, s.isOpen = true, false }, nil},
		"closed":                              {func(s *state) { s.isOpen = false }, nil},
		"a team under a closed one":           {func(s *state) { s.isUnderClosed, s.isProject = true, false }, []int{Path}},
		"all that can be at once":             {func(s *state) { s.held, s.used, s.isUnderClosed = -1, 0, true }, []int{Balance, Below, Holding, Using, Path}},
	} {
		s := right
		c.spoil(&s)
		var want []Finding
		for _, kind := range c.want {
			want = append(want, Finding{kind, 9})
		}
		if got := s.findings(); !slices.Equal(got, want) {
			t.Errorf("%s: %v, not %v", what, got, want)
		}
	}
}

// What is asked of a tree is told of it as it is: what is closed, and what stands under that, at whatever distance.
func TestP27_1_UnderAClosedOne(t *testing.T) {
	x := tree.New()
	for _, n := range []tree.Node{
		{Id: 1, Kind: api.Org, Closed: true}, {Id: 2, Parent: 1, Kind: api.Team, Closed: true}, {Id: 3, Parent: 2, Kind: api.Project, Closed: true},
		{Id: 4, Kind: api.Org}, {Id: 5, Parent: 4, Kind: api.Team, Closed: true}, {Id: 6, Parent: 5, Kind: api.Project, Closed: true},
		{Id: 7, Parent: 4, Kind: api.Team}, {Id: 8, Parent: 7, Kind: api.Project, Closed: true}, {Id: 9, Parent: 7, Kind: api.Project},
	} {
		if err := x.Put(n); err != api.OK {
			t.Fatalf("Put(%+v): %d", n, err)
		}
	}
	l, err := ledger.New(ledger.Config{Validity: 5, Places: 2, Day: 24})
	if err != api.OK {
		t.Fatal(err)
	}
	p := l.Parts()
	p.Tree = x
	if l, err = ledger.Make(p); err != api.OK {
		t.Fatal(err)
	}
	for id, want := range []struct{ isProject, isOpen, isUnderClosed bool }{
		{}, {}, {false, false, true}, {true, false, true}, {false, true, false}, {}, {true, false, true},
		{false, true, false}, {true, false, false}, {true, true, false}, {},
	} {
		s := ask(l, id)
		if s.isProject != want.isProject || s.isOpen != want.isOpen || s.isUnderClosed != want.isUnderClosed {
			t.Errorf("node %d: %+v, not %+v", id, s, want)
		}
	}
	if got := Look(l); len(got) != 0 {
		t.Errorf("%v", got)
	}
}
