package image_test

import (
	"bytes"
	"fmt"
	"math/rand"
	"slices"
	"testing"

	"purser/api"
	"purser/image"
	"purser/ledger"
	"purser/server"
	"purser/wire"
)

// grown answers a server with two teams of three projects each, that have funds, and with plans of four groups.
func grown(t *testing.T, c ledger.Config) *server.Server {
	t.Helper()
	s := made(t, c)
	does(t, s, request{Kind: wire.Create, Node: 9, Sort: api.Org, Limit: -1})
	for _, team := range []int{1, 2} {
		does(t, s, request{Kind: wire.Create, Node: team, Parent: 9, Sort: api.Team, Limit: 2000})
	}
	for node := 3; node <= 8; node++ {
		does(t, s, request{Kind: wire.Create, Node: node, Parent: 1 + node%2, Sort: api.Project, Limit: -1})
	}
	for node := 1; node <= 9; node++ {
		does(t, s, request{Kind: wire.TopUp, Node: node, Amount: 100 + 1000/node})
	}
	for group := 1; group <= 4; group++ {
		does(t, s, request{Kind: wire.Price, Plan: steps(group, group, 3*group)})
	}
	return s
}

// draw answers a request that fits a server, more often than not.
func draw(r *rand.Rand, s *server.Server) request {
	table, l := s.Ledger().Table(), s.Ledger()
	node, group, number := 3+r.Intn(6), 1+r.Intn(4), s.Parts().Events.Last()+1+r.Intn(3)
	switch n := r.Intn(30); {
	case n < 6:
		want := []item{{Group: group, Want: 1 + r.Intn(9)}, {Group: 1 + group%4, Want: 1 + r.Intn(4)}}
		return request{Kind: wire.Initial, Session: table.Last() + r.Intn(4), Node: node, Items: want[:1+r.Intn(2)]}
	case n < 16:
		ids := slices.Concat(table.Ids(), table.Ids(), s.Ended(), []int{table.Last() + 1})
		x, _ := table.Get(ids[r.Intn(len(ids))])
		q := request{Kind: wire.Update + r.Intn(4)/3, Session: x.Id, Number: x.Number + 1 - r.Intn(10)/9}
		for _, g := range x.Grants {
			q.Items = append(q.Items, item{Group: g.Group, Used: r.Intn(g.Units + 1), Want: r.Intn(8)})
		}
		return q
	case n < 20:
		return request{Kind: wire.Event, Number: number, Node: node, Group: group, Units: 1 + r.Intn(9)}
	case n < 22:
		of := number
		if past := l.Past(); len(past) > 0 {
			of = past[r.Intn(len(past))].Number
		}
		return request{Kind: wire.Refund, Number: number, Of: of}
	case n < 24:
		return request{Kind: wire.TopUp, Node: 1 + r.Intn(10), Amount: r.Intn(300)}
	}
	return []request{
		{Kind: wire.Create, Node: r.Intn(34), Parent: r.Intn(10), Sort: 1 + r.Intn(3), Limit: r.Intn(999) - 1},
		{Kind: wire.Move, Node: node, Parent: 1 + r.Intn(3)}, {Kind: wire.Shut, Node: 7 + r.Intn(26)}, {Kind: wire.Limit, Node: node, Limit: r.Intn(999) - 1},
		{Kind: wire.Price, Plan: steps(group, 1+r.Intn(6), r.Intn(3)*5)}, {Kind: wire.Roll, Carry: r.Perm(10)[:r.Intn(10)]},
		{Kind: wire.Balance, Node: r.Intn(11)}, {Kind: wire.Bill, Node: r.Intn(11), Period: r.Intn(3)},
	}[r.Intn(8)]
}

// bytesOf answers the bytes of a request.
func bytesOf(t *testing.T, r request) []byte {
	t.Helper()
	b, err := wire.Ask(r)
	if err != api.OK {
		t.Fatalf("Ask(%+v): %d", r, err)
	}
	return b
}

// A server, one that was made of its bytes once, and one that is made of them again and again, all answer the same, also to
// copies of what was answered long ago, and stay the same.
func TestP25_2_AnswersTheSameFromThenOn(t *testing.T) {
	seen := map[string]int{}
	for seed := range int64(20) {
		r := rand.New(rand.NewSource(seed))
		s := grown(t, ledger.Config{Validity: 1 + r.Intn(9), Places: 1 + r.Intn(9), Day: 4 + r.Intn(20)})
		var before [][]byte
		var once, always *server.Server
		from := 30 + r.Intn(150)
		for i := range 300 {
			what := fmt.Sprintf("script %d, step %d", seed, i)
			if i == from {
				once, always = unpack(t, what, pack(t, s)), unpack(t, what, pack(t, s))
			}
			if r.Intn(7) == 0 {
				over, err := s.Tick()
				seen["over"] += len(over)
				for _, u := range []*server.Server{once, always} {
					if also, e := u.Tick(); u != nil && (!slices.Equal(over, also) || err != e) {
						t.Fatalf("%s: %v, %d, not %v, %d", what, also, e, over, err)
					}
				}
			} else {
				b := bytesOf(t, draw(r, s))
				if len(before) > 0 && r.Intn(6) == 0 {
					b = before[max(0, len(before)-1-r.Intn(40))]
				}
				before = append(before, b)
				a := s.Do(b)
				told, _ := wire.Told(a)
				seen[fmt.Sprint(told.Kind, " ", told.Err == api.OK)]++
				for _, u := range []*server.Server{once, always} {
					if also := u.Do(b); u != nil && !bytes.Equal(a, also) {
						t.Fatalf("%s: %x: %x, not %x", what, b, also, a)
					}
				}
			}
			if i < from {
				continue
			}
			b := pack(t, s)
			if i%20 == 0 && !bytes.Equal(b, plainOf(t, s).bytes()) {
				t.Fatalf("%s: %x, not %x", what, b, plainOf(t, s).bytes())
			}
			if !bytes.Equal(b, pack(t, once)) || !bytes.Equal(b, pack(t, always)) {
				t.Fatalf("%s: they are unlike", what)
			}
			always = unpack(t, what, b)
		}
	}
	for kind := wire.Initial; kind <= wire.Bill; kind++ {
		if seen[fmt.Sprint(kind, " true")] < 10 || seen["over"] < 50 {
			t.Errorf("kind %d: only %d times", kind, seen[fmt.Sprint(kind, " true")])
		}
	}
}

// Behind its bytes a full server goes on as if nothing had been.
func TestP25_2_AFullServerGoesOn(t *testing.T) {
	s := full(t)
	u := unpack(t, "a full one", pack(t, s))
	r := rand.New(rand.NewSource(1))
	for i := range 300 {
		b := bytesOf(t, draw(r, s))
		if a, also := s.Do(b), u.Do(b); !bytes.Equal(a, also) {
			t.Fatalf("step %d: %x: %x, not %x", i, b, also, a)
		}
		if i%9 == 0 {
			over, _ := s.Tick()
			if also, _ := u.Tick(); !slices.Equal(over, also) {
				t.Fatalf("step %d: %v, not %v", i, also, over)
			}
		}
		if !bytes.Equal(pack(t, s), pack(t, u)) {
			t.Fatalf("step %d: they are unlike", i)
		}
	}
}

func TestP25_2_TheLastTime(t *testing.T) {
	p := plainOf(t, some(t))
	p.config[3] = 1 << 61
	s := unpack(t, "the last time", p.bytes())
	before := pack(t, s)
	if over, err := s.Tick(); over != nil || err != api.ErrOver || !bytes.Equal(pack(t, s), before) {
		t.Errorf("Tick: %v, %d", over, err)
	}
}

func TestP25_3_NothingIsChangedOrKept(t *testing.T) {
	s := full(t)
	b := pack(t, s)
	want := slices.Clone(b)
	clear(b[:cap(b)])
	if !bytes.Equal(pack(t, s), want) {
		t.Error("a server's bytes are kept, or it was changed")
	}
	room := append(slices.Clone(want), 77, 77)
	one, two := unpack(t, "one", room[:len(want)]), unpack(t, "two", room[:len(want)])
	if !bytes.Equal(room, append(slices.Clone(want), 77, 77)) {
		t.Error("Unpack changed its argument")
	}
	clear(room)
	if !bytes.Equal(pack(t, one), want) {
		t.Error("the argument is kept")
	}
	// Neither is the packed server a part of the unpacked one, nor are two of them parts of each other.
	ticks(t, one, 99)
	does(t, one, request{Kind: wire.Roll})
	does(t, two, request{Kind: wire.TopUp, Node: 1, Amount: 1})
	if !bytes.Equal(pack(t, s), want) || bytes.Equal(pack(t, two), want) {
		t.Error("two servers share what they have")
	}
	third, err := image.Unpack(want)
	if err != api.OK || third == one || !bytes.Equal(pack(t, third), want) {
		t.Errorf("%d", err)
	}
}
