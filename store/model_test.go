package store_test

import (
	"bytes"
	"encoding/binary"
	"hash/crc32"
	"math/rand"
	"slices"
	"testing"

	"purser/api"
	"purser/disk"
	"purser/image"
	"purser/ledger"
	"purser/server"
	"purser/store"
	"purser/tariff"
	"purser/wire"
)

type (
	request = wire.Request
	answer  = wire.Answer
	item    = wire.Item
)

// body answers the bytes of a group of records.
func body(group [][]byte) []byte {
	var b []byte
	for _, r := range group {
		b = append(binary.AppendUvarint(b, uint64(len(r))), r...)
	}
	return b
}

// laid answers the sectors of a log's group, put together from their places.
func laid(gen, number int, group [][]byte) []byte {
	b := body(group)
	all := make([]byte, 64)
	all[0] = 1
	binary.BigEndian.PutUint64(all[1:], uint64(gen))
	binary.BigEndian.PutUint64(all[9:], uint64(number))
	binary.BigEndian.PutUint32(all[17:], uint32(len(b)))
	binary.BigEndian.PutUint32(all[21:], crc32.ChecksumIEEE(slices.Concat(all[1:21], b)))
	b = b[copy(all[25:], b):]
	for len(b) > 0 {
		next := make([]byte, 64)
		next[0] = 2
		b = b[copy(next[1:], b):]
		all = append(all, next...)
	}
	return all
}

// sectors answers how many sectors a group needs.
func sectors(group [][]byte) int { return len(laid(0, 0, group)) / 64 }

// slot answers the sectors of a slot that has an image.
func slot(gen int, b []byte) []byte {
	all := make([]byte, 64)
	all[0] = 3
	binary.BigEndian.PutUint64(all[1:], uint64(gen))
	binary.BigEndian.PutUint64(all[9:], uint64(len(b)))
	binary.BigEndian.PutUint32(all[17:], crc32.ChecksumIEEE(slices.Concat(all[1:17], b)))
	all = append(all, b...)
	return append(all, make([]byte, -len(all)&63)...)
}

// model is what a store has to be: a server of its own, its images and its log.
type model struct {
	t *testing.T
	c store.Config
	s *server.Server
	// images has the last image of each slot; gen is the last one's.
	images [2][]byte
	gen    int
	log    [][][]byte
}

// fresh answers the model of a store that is formatted.
func fresh(t *testing.T, c store.Config, gen int) *model {
	t.Helper()
	s, err := server.New(c.Ledger)
	if err != api.OK {
		t.Fatalf("server.New: %d", err)
	}
	m := &model{t: t, c: c, s: s, gen: gen - 1}
	if err := m.compact(); err != api.OK {
		t.Fatalf("no room: %d", err)
	}
	return m
}

// left answers how many sectors of the log are left.
func (m *model) left() int {
	left := m.c.Log
	for _, group := range m.log {
		left -= sectors(group)
	}
	return left
}

func (m *model) compact() api.Errno {
	b := pack(m.t, m.s)
	if len(b) > 64*(m.c.Slot-1) {
		return api.ErrDisk
	}
	m.gen++
	m.images[m.gen%2], m.log = slot(m.gen, b), nil
	return api.OK
}

// room says whether a group of records has room.
func (m *model) room(group [][]byte) bool {
	return sectors(group) <= m.left() || m.compact() == api.OK && sectors(group) <= m.left()
}

// record answers what is kept of a request or of a tick, if it changes something.
func record(b []byte) []byte {
	if len(b) == 0 {
		return []byte{2}
	}
	if r, err := wire.Asked(b); err != api.OK || r.Kind == wire.Balance || r.Kind == wire.Bill {
		return nil
	}
	return append([]byte{1}, b...)
}

// run answers what a request or a tick is answered by the server, and whether there was no error.
func (m *model) run(b []byte) ([]byte, bool) {
	if len(b) == 0 {
		_, err := m.s.Tick()
		return []byte{byte(err)}, err == api.OK
	}
	a := m.s.Do(b)
	return a, a[1] == 0
}

func (m *model) batch(l [][]byte) [][]byte {
	var group, done, answers [][]byte
	for _, b := range l {
		if r := record(b); r != nil {
			group = append(group, r)
		}
	}
	room := m.room(group)
	for _, b := range l {
		r := record(b)
		if r != nil && !room {
			answers = append(answers, refusal(b, api.ErrDisk))
			continue
		}
		a, ok := m.run(b)
		answers = append(answers, a)
		if r != nil && ok {
			done = append(done, r)
		}
	}
	if len(done) > 0 {
		m.log = append(m.log, done)
	}
	return answers
}

// refusal answers the bytes of an error: to a tick, to a request of a kind, or to no request.
func refusal(b []byte, err api.Errno) []byte {
	if len(b) == 0 {
		return []byte{byte(err)}
	}
	r, _ := wire.Asked(b)
	return []byte{byte(r.Kind), byte(err)}
}

// agrees holds that a store is what the model says, and so is its disk.
func (m *model) agrees(what string, s *store.Store, d *disk.Disk) {
	m.t.Helper()
	if s.Gen() != m.gen || s.Left() != m.left() {
		m.t.Fatalf("%s: generation %d, %d left, not %d, %d", what, s.Gen(), s.Left(), m.gen, m.left())
	}
	if got, want := pack(m.t, s.Server()), pack(m.t, m.s); !bytes.Equal(got, want) {
		m.t.Fatalf("%s: the server is\n%x\nnot\n%x", what, got, want)
	}
	all, err := d.Read(0, d.Size())
	if err != api.OK || len(d.Dirty()) > 0 {
		m.t.Fatalf("%s: Read: %d, %v", what, err, d.Dirty())
	}
	for i, image := range m.images {
		if !bytes.HasPrefix(all[64*m.c.Slot*i:], image) {
			m.t.Fatalf("%s: slot %d is another one", what, i)
		}
	}
	at := 64 * 2 * m.c.Slot
	for i, group := range m.log {
		b := laid(m.gen, i, group)
		if !bytes.HasPrefix(all[at:], b) {
			m.t.Fatalf("%s: group %d is another one", what, i)
		}
		at += len(b)
	}
}

// pack answers a server's image.
func pack(t *testing.T, s *server.Server) []byte {
	t.Helper()
	b, err := image.Pack(s)
	if err != api.OK {
		t.Fatalf("Pack: %d", err)
	}
	return b
}

// made answers a disk of as many sectors as a config needs.
func made(t *testing.T, c store.Config) *disk.Disk {
	t.Helper()
	d, err := disk.New(store.Sectors(c))
	if err != api.OK {
		t.Fatalf("disk.New(%d): %d", store.Sectors(c), err)
	}
	return d
}

// formatted answers a new store, and its disk.
func formatted(t *testing.T, c store.Config) (*store.Store, *disk.Disk) {
	t.Helper()
	d := made(t, c)
	s, err := store.Format(d, c)
	if err != api.OK {
		t.Fatalf("Format: %d", err)
	}
	return s, d
}

// opened answers the store that stands on a disk.
func opened(t *testing.T, what string, d *disk.Disk, c store.Config) *store.Store {
	t.Helper()
	s, err := store.Open(d, c)
	if err != api.OK || s == nil {
		t.Fatalf("%s: Open: %d", what, err)
	}
	return s
}

// bytesOf answers the bytes of a request.
func bytesOf(t *testing.T, r request) []byte {
	t.Helper()
	b, err := wire.Ask(r)
	if err != api.OK {
		t.Fatalf("Ask(%+v): %d", r, err)
	}
	return b
}

// flat answers a plan of one tier.
func flat(group, price int) tariff.Plan {
	return tariff.Plan{Base: api.Tariff{Group: group, Mode: api.Graduated, Block: 1, Tiers: []api.Tier{{Price: price}}}}
}

// lays are the bytes of requests that lay nodes, funds and plans.
func lays(t *testing.T) [][]byte {
	var l [][]byte
	for i := 1; i <= 4; i++ {
		l = append(l, bytesOf(t, request{Kind: wire.Create, Node: i, Parent: min(i-1, 2), Sort: min(i, 3), Limit: -1}))
		l = append(l, bytesOf(t, request{Kind: wire.TopUp, Node: i, Amount: 5000}))
	}
	return append(l, bytesOf(t, request{Kind: wire.Price, Plan: flat(1, 3)}), bytesOf(t, request{Kind: wire.Price, Plan: flat(2, 1)}))
}

// draw answers the bytes of a request that fits a server, more often than not; nothing: a tick.
func draw(t *testing.T, r *rand.Rand, s *server.Server) []byte {
	l := s.Ledger()
	node, number := 3+r.Intn(2), s.Parts().Events.Last()+1
	switch n := r.Intn(24); {
	case n < 4:
		return nil
	case n < 8:
		return bytesOf(t, request{Kind: wire.Initial, Session: l.Table().Last() + r.Intn(3), Node: node, Items: []item{{Group: 1 + r.Intn(2), Want: 1 + r.Intn(9)}}})
	case n < 14:
		ids := slices.Concat(l.Table().Ids(), s.Ended(), []int{l.Table().Last() + 1})
		x, _ := l.Table().Get(ids[r.Intn(len(ids))])
		q := request{Kind: wire.Update + r.Intn(4)/3, Session: x.Id, Number: x.Number + 1 - r.Intn(8)/7}
		for _, g := range x.Grants {
			q.Items = append(q.Items, item{Group: g.Group, Used: r.Intn(g.Units + 1), Want: r.Intn(8)})
		}
		return bytesOf(t, q)
	case n < 16:
		return bytesOf(t, request{Kind: wire.Event, Number: number, Node: node, Group: 1 + r.Intn(2), Units: 1 + r.Intn(9)})
	case n < 17:
		return bytesOf(t, request{Kind: wire.Refund, Number: number, Of: max(0, number-1-r.Intn(3))})
	case n < 19:
		return bytesOf(t, request{Kind: wire.Balance + r.Intn(2), Node: r.Intn(5)})
	}
	return [][]byte{
		{0}, {8}, {255, 255}, {8, 3, 0},
		bytesOf(t, request{Kind: wire.TopUp, Node: r.Intn(6), Amount: 70}),
		bytesOf(t, request{Kind: wire.Limit, Node: r.Intn(6), Limit: 4000}),
		bytesOf(t, request{Kind: wire.Roll, Carry: []int{1, 2, 3, 4}}),
		bytesOf(t, request{Kind: wire.Create, Node: r.Intn(12), Parent: r.Intn(4), Sort: 1 + r.Intn(3), Limit: -1}),
		bytesOf(t, request{Kind: wire.Price, Plan: flat(1+r.Intn(4), r.Intn(4))}),
	}[r.Intn(9)]
}

// small is a config for most tests: a Compact is needed now and then.
var small = store.Config{Ledger: ledger.Config{Validity: 5, Places: 3, Day: 24}, Slot: 120, Log: 9}
