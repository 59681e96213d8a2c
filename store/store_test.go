package store_test

import (
	"bytes"
	"fmt"
	"math"
	"slices"
	"testing"

	"purser/api"
	"purser/disk"
	"purser/frame"
	"purser/ledger"
	"purser/server"
	"purser/snap"
	"purser/store"
	"purser/window"
	"purser/wire"
)

// told answers an answer's parts.
func told(t *testing.T, b []byte) answer {
	t.Helper()
	a, err := wire.Told(b)
	if err != api.OK {
		t.Fatalf("Told(%x): %d", b, err)
	}
	return a
}

// does holds that a request is answered without an error.
func does(t *testing.T, s *store.Store, r request) answer {
	t.Helper()
	a := told(t, s.Do(bytesOf(t, r)))
	if a.Kind != r.Kind || a.Err != api.OK {
		t.Fatalf("%+v: %+v", r, a)
	}
	return a
}

// denial answers what Do answers of an error: no bytes are no request to it.
func denial(b []byte, err api.Errno) []byte {
	r, _ := wire.Asked(b)
	return []byte{byte(r.Kind), byte(err)}
}

// refuses holds that a request is answered with an error, and changes nothing.
func refuses(t *testing.T, what string, s *store.Store, b []byte, want api.Errno) {
	t.Helper()
	before := pack(t, s.Server())
	if got := s.Do(b); !bytes.Equal(got, denial(b, want)) {
		t.Errorf("%s: Do(%x): %x, not %d", what, b, got, want)
	}
	if !bytes.Equal(pack(t, s.Server()), before) {
		t.Errorf("%s: Do(%x) has changed something", what, b)
	}
}

// laidOut answers a store with nodes, funds and plans.
func laidOut(t *testing.T, c store.Config) (*store.Store, *disk.Disk) {
	t.Helper()
	s, d := formatted(t, c)
	for _, b := range lays(t) {
		if a := told(t, s.Do(b)); a.Err != api.OK {
			t.Fatalf("%x: %+v", b, a)
		}
	}
	return s, d
}

// lasting answers all the bytes of a disk.
func lasting(t *testing.T, d *disk.Disk) []byte {
	t.Helper()
	b, err := d.Read(0, d.Size())
	if err != api.OK {
		t.Fatalf("Read: %d", err)
	}
	return b
}

// downed lets the power of a disk go off.
func downed(t *testing.T, d *disk.Disk) {
	t.Helper()
	d.Cut(1)
	b := lasting(t, d)[:64]
	if err := d.Write(0, b); err != api.ErrDown || !d.Off() {
		t.Fatalf("Write: %d", err)
	}
}

func TestP26_1_TheChaptersExample(t *testing.T) {
	s, d := formatted(t, small)
	does(t, s, request{Kind: wire.Create, Node: 1, Sort: 1, Limit: -1})
	does(t, s, request{Kind: wire.TopUp, Node: 1, Amount: 5})
	want := does(t, s, request{Kind: wire.Balance, Node: 1})
	d.Crash(nil)
	s = opened(t, "the example", d, small)
	if a := does(t, s, request{Kind: wire.Balance, Node: 1}); a.Available != 5 || a.Available != want.Available || a.Account != want.Account {
		t.Errorf("%+v, not %+v", a, want)
	}
}

// noPlace answers configs that are none.
func noPlace() []store.Config {
	l := small.Ledger
	return []store.Config{
		{}, {Slot: 9, Log: 9}, {Ledger: l}, {Ledger: l, Slot: 9}, {Ledger: l, Log: 9}, {Ledger: l, Slot: -1, Log: 9}, {Ledger: l, Slot: 9, Log: -1},
		{Ledger: l, Slot: 8193, Log: 1}, {Ledger: l, Slot: 1, Log: 8193}, {Ledger: l, Slot: 8192, Log: 8192}, {Ledger: l, Slot: 1, Log: 8192},
		{Ledger: l, Slot: 4096, Log: 1}, {Ledger: l, Slot: 4095, Log: 3}, {Ledger: l, Slot: 1, Log: 8191}, {Ledger: l, Slot: 8192, Log: 1},
		{Ledger: l, Slot: math.MaxInt, Log: 1}, {Ledger: l, Slot: 1, Log: math.MaxInt}, {Ledger: l, Slot: math.MaxInt, Log: math.MaxInt},
		{Ledger: l, Slot: math.MinInt, Log: math.MinInt}, {Ledger: l, Slot: 1 << 62, Log: 9}, {Ledger: l, Slot: 1<<62 + 1, Log: 9}, {Ledger: l, Slot: 1 << 63 / 2, Log: 2},
		{Ledger: ledger.Config{Validity: 0, Places: 1, Day: 4}, Slot: 9, Log: 9}, {Ledger: ledger.Config{Validity: 1, Places: 17, Day: 4}, Slot: 9, Log: 9},
		{Ledger: ledger.Config{Validity: 1, Places: 1, Day: 3}, Slot: 9, Log: 9}, {Ledger: ledger.Config{Validity: 1<<30 + 1, Places: 1, Day: 4}, Slot: 9, Log: 9},
	}
}

func TestP26_1_Sectors(t *testing.T) {
	for _, c := range noPlace() {
		if n := store.Sectors(c); n != 0 {
			t.Errorf("%+v: %d", c, n)
		}
	}
	for _, c := range [][3]int{{1, 1, 3}, {9, 4, 22}, {1, 8190, 8192}, {4095, 2, 8192}, {4095, 1, 8191}, {4000, 192, 8192}, {2, 8188, 8192}} {
		l := ledger.Config{Validity: 1 << 30, Places: 16, Day: 1 << 30}
		if n := store.Sectors(store.Config{Ledger: l, Slot: c[0], Log: c[1]}); n != c[2] {
			t.Errorf("%v: %d", c, n)
		}
	}
}

func TestP26_1_NoConfigNoDisk(t *testing.T) {
	calls := map[string]func(d *disk.Disk, c store.Config) (*store.Store, api.Errno){"Format": store.Format, "Open": store.Open}
	_, d := formatted(t, small)
	before := lasting(t, d)
	short, _ := disk.New(store.Sectors(small) - 1)
	for what, call := range calls {
		for _, c := range noPlace() {
			if s, err := call(d, c); s != nil || err != api.ErrArg {
				t.Errorf("%s of %+v: %v, %d", what, c, s, err)
			}
		}
		for _, d := range []*disk.Disk{nil, {}, short} {
			if s, err := call(d, small); s != nil || err != api.ErrArg {
				t.Errorf("%s of a disk of %d sectors: %v, %d", what, d.Size(), s, err)
			}
		}
	}
	if !bytes.Equal(lasting(t, d), before) || !bytes.Equal(lasting(t, short), make([]byte, 64*short.Size())) {
		t.Error("something was written")
	}
	// These are asked ahead of the power.
	downed(t, d)
	for what, call := range calls {
		if s, err := call(d, store.Config{}); s != nil || err != api.ErrArg {
			t.Errorf("%s without power: %v, %d", what, s, err)
		}
		if s, err := call(d, small); s != nil || err != api.ErrDown {
			t.Errorf("%s without power: %v, %d", what, s, err)
		}
	}
}

// On a disk as great as there may be, with all of its sectors in use, and on a greater one than is asked for.
func TestP26_1_GreatDisks(t *testing.T) {
	c := store.Config{Ledger: small.Ledger, Slot: 4000, Log: 192}
	s, d := laidOut(t, c)
	if d.Size() != 8192 || s.Gen() != 1 || s.Left() != 192-10 {
		t.Errorf("%d sectors, %d, %d left", d.Size(), s.Gen(), s.Left())
	}
	want := pack(t, s.Server())
	d.Crash(nil)
	if s := opened(t, "a great one", d, c); !bytes.Equal(pack(t, s.Server()), want) {
		t.Error("it is another one")
	}
	d, _ = disk.New(500)
	for i := 0; i < 500; i++ {
		d.Write(i, bytes.Repeat([]byte{byte(i)}, 64))
	}
	behind := lasting(t, d)[64*store.Sectors(small):]
	s, err := store.Format(d, small)
	if err != api.OK || s.Compact() != api.OK || s.Compact() != api.OK || !bytes.Equal(lasting(t, d)[64*store.Sectors(small):], behind) {
		t.Errorf("%d, or what stands behind has changed", err)
	}
}

func TestP26_1_FormatANewDisk(t *testing.T) {
	d := made(t, small)
	d.Write(2*small.Slot, bytes.Repeat([]byte{1}, 64*small.Log))
	d.Sync()
	s, err := store.Format(d, small)
	if err != api.OK || s.Gen() != 1 || s.Left() != 9 || len(d.Dirty()) != 0 {
		t.Fatalf("%d, %d, %d left", err, s.Gen(), s.Left())
	}
	fresh(t, small, 1).agrees("a new one", s, d)
	all := lasting(t, d)
	log := all[64*2*small.Slot:]
	if !bytes.Equal(all[:64*small.Slot], make([]byte, 64*small.Slot)) || !bytes.Equal(log[:64], make([]byte, 64)) || log[64] != 1 {
		t.Error("it isn't as the chapter says")
	}
}

// Over what stands there already: the generation is the next one, and the old log is none.
func TestP26_1_FormatOverAnother(t *testing.T) {
	s, d := laidOut(t, small)
	for i := range 7 {
		if i%3 == 0 {
			s.Compact()
		}
		gen := s.Gen() + 1
		does(t, s, request{Kind: wire.TopUp, Node: 1, Amount: 7})
		other := small
		other.Ledger.Validity = gen
		f, err := store.Format(d, other)
		if err != api.OK || f.Gen() != gen || f.Left() != 9 || f.Server().Ledger().Config() != other.Ledger {
			t.Fatalf("%d, %d, %d left", err, f.Gen(), f.Left())
		}
		if b := lasting(t, d)[64*2*small.Slot:]; !bytes.Equal(b[:64], make([]byte, 64)) {
			t.Errorf("the log begins with %x", b[:64])
		}
		d.Crash(nil)
		o := opened(t, "over another", d, other)
		if !bytes.Equal(pack(t, o.Server()), pack(t, f.Server())) || len(o.Server().Ledger().Tree().Ids()) != 0 {
			t.Fatal("it isn't a new one")
		}
		s = o
		for _, b := range lays(t) {
			s.Do(b)
		}
	}
	// One slot alone has an image; the other one's is the greater; neither has one.
	for _, c := range []struct {
		gens []int
		want int
	}{{[]int{4}, 5}, {[]int{9}, 10}, {[]int{9, 4}, 10}, {[]int{3, 8}, 9}, {nil, 1}, {[]int{math.MaxInt - 1}, math.MaxInt}} {
		d := made(t, small)
		for _, gen := range c.gens {
			snap.Save(d, 0, small.Slot, gen, []byte("no image of a server"))
		}
		if s, err := store.Format(d, small); err != api.OK || s.Gen() != c.want {
			t.Errorf("%v: %d, %d", c.gens, err, s.Gen())
		}
	}
	d = made(t, small)
	snap.Save(d, 0, small.Slot, math.MaxInt, nil)
	before := lasting(t, d)
	if s, err := store.Format(d, small); s != nil || err != api.ErrDisk || !bytes.Equal(lasting(t, d), before) {
		t.Errorf("behind the last generation: %d", err)
	}
}

func TestP26_1_FormatWithoutRoom(t *testing.T) {
	_, d := laidOut(t, small)
	before := lasting(t, d)
	for _, slot := range []int{1, 2} {
		c := store.Config{Ledger: small.Ledger, Slot: slot, Log: 200}
		s, err := store.Format(d, c)
		if slot == 1 && (s != nil || err != api.ErrDisk || !bytes.Equal(lasting(t, d), before)) {
			t.Errorf("no room: %d", err)
		}
		if slot == 2 && (err != api.OK || s.Left() != 200) {
			t.Errorf("room: %d", err)
		}
	}
	// It is asked ahead of the power, too.
	downed(t, d)
	if s, err := store.Format(d, store.Config{Ledger: small.Ledger, Slot: 1, Log: 9}); s != nil || err != api.ErrDisk {
		t.Errorf("no room, no power: %d", err)
	}
}

func TestP26_1_OpenWhatIsNone(t *testing.T) {
	d := made(t, small)
	if s, err := store.Open(d, small); s != nil || err != api.ErrMiss {
		t.Errorf("no image: %d", err)
	}
	news, err := server.New(small.Ledger)
	if err != api.OK {
		t.Fatal(err)
	}
	right := pack(t, news)
	for what, b := range map[string][]byte{
		"nothing": nil, "noughts": make([]byte, 100), "cut short": right[:len(right)-1], "a byte behind it": append(slices.Clone(right), 0),
		"a byte changed": append([]byte{0}, right[1:]...),
	} {
		d := made(t, small)
		snap.Save(d, 0, small.Slot, 3, right)
		snap.Save(d, 0, small.Slot, 4, b)
		before := lasting(t, d)
		if s, err := store.Open(d, small); s != nil || err != api.ErrFalse || !bytes.Equal(lasting(t, d), before) {
			t.Errorf("%s: %d", what, err)
		}
		snap.Save(d, 0, small.Slot, 5, right)
		if s, err := store.Open(d, small); err != api.OK || s.Gen() != 5 {
			t.Errorf("the image behind %s: %d", what, err)
		}
	}
}

// A record is a byte 1 and a request's bytes, or the byte 2.
func TestP26_1_OpenRecords(t *testing.T) {
	create := bytesOf(t, request{Kind: wire.Create, Node: 7, Sort: 1, Limit: -1})
	ask := func(b []byte) []byte { return append([]byte{1}, b...) }
	for what, c := range map[string]struct {
		groups [][][]byte
		ids    int
		now    int
		err    api.Errno
	}{
		"none":                   {nil, 0, 0, api.OK},
		"a request":              {[][][]byte{{ask(create)}}, 1, 0, api.OK},
		"a tick":                 {[][][]byte{{{2}}}, 0, 1, api.OK},
		"some":                   {[][][]byte{{{2}, ask(create), {2}}, {{2}}, {ask(lays(t)[0])}}, 2, 3, api.OK},
		"one that is refused":    {[][][]byte{{ask(create), ask(create)}, {{2}}}, 1, 1, api.OK},
		"one that only asks":     {[][][]byte{{ask(bytesOf(t, request{Kind: wire.Balance, Node: 7}))}, {{2}}}, 0, 1, api.OK},
		"one of no bytes":        {[][][]byte{{{2}}, {{}}}, 0, 0, api.ErrFalse},
		"a 1 alone":              {[][][]byte{{{1}}}, 0, 0, api.ErrFalse},
		"a 0":                    {[][][]byte{{{0}}}, 0, 0, api.ErrFalse},
		"a 3":                    {[][][]byte{{{3}, {2}}}, 0, 0, api.ErrFalse},
		"a tick with a tail":     {[][][]byte{{{2, 0}}}, 0, 0, api.ErrFalse},
		"a request of no mark":   {[][][]byte{{create}}, 0, 0, api.ErrFalse},
		"a request as a tick":    {[][][]byte{{append([]byte{2}, create...)}}, 0, 0, api.ErrFalse},
		"a request with a tail":  {[][][]byte{{append(ask(create), 0)}}, 0, 0, api.ErrFalse},
		"a request cut short":    {[][][]byte{{ask(create[:len(create)-1])}}, 0, 0, api.ErrFalse},
		"one of them at the end": {[][][]byte{{{2}, ask(create)}, {{2}}, {{2}, {1, 0}}}, 0, 0, api.ErrFalse},
	} {
		_, d := formatted(t, small)
		log, _, _ := frame.Open(d, 2*small.Slot, small.Log, 1)
		for _, group := range c.groups {
			log.Append(group)
		}
		other, _, _ := frame.Open(d, 2*small.Slot, small.Log, 1)
		s, err := store.Open(d, small)
		if err != c.err || (s != nil) != (err == api.OK) {
			t.Errorf("%s: %d", what, err)
		} else if err == api.OK {
			l := s.Server().Ledger()
			if len(l.Tree().Ids()) != c.ids || l.Now() != c.now || s.Left() != other.Left() || s.Gen() != 1 {
				t.Errorf("%s: %v at %d, %d left", what, l.Tree().Ids(), l.Now(), s.Left())
			}
		}
	}
}

// The log of another generation isn't that of the image.
func TestP26_1_OpenTheImagesLog(t *testing.T) {
	for _, gen := range []int{0, 2, 3} {
		_, d := formatted(t, small)
		log, _, _ := frame.Open(d, 2*small.Slot, small.Log, gen)
		log.Append([][]byte{{2}, {77}})
		if s := opened(t, "another log", d, small); s.Server().Ledger().Now() != 0 || s.Left() != 9 {
			t.Errorf("generation %d: %d", gen, s.Server().Ledger().Now())
		}
	}
	// Nor does it matter which Config of a ledger is handed in: the image tells it.
	s, d := laidOut(t, small)
	c := small
	c.Ledger = ledger.Config{Validity: 9, Places: 9, Day: 9}
	if o := opened(t, "another config", d, c); !bytes.Equal(pack(t, o.Server()), pack(t, s.Server())) {
		t.Error("it is another server")
	}
}

// exactly answers a store whose log has so many sectors left; the image has no room any more, if it is told so.
func exactly(t *testing.T, left int, roomy bool) (*store.Store, *disk.Disk) {
	t.Helper()
	c := store.Config{Ledger: small.Ledger, Slot: 2, Log: 30}
	if roomy {
		c.Slot = 100
	}
	s, d := laidOut(t, c)
	for s.Left() > left {
		does(t, s, request{Kind: wire.TopUp, Node: 1, Amount: 1})
	}
	return s, d
}

func TestP26_1_AFullLog(t *testing.T) {
	create := bytesOf(t, request{Kind: wire.Create, Node: 9, Sort: 1, Limit: -1})
	balance := bytesOf(t, request{Kind: wire.Balance, Node: 1})
	again := bytesOf(t, request{Kind: wire.Create, Node: 1, Sort: 1, Limit: -1})
	s, d := exactly(t, 0, false)
	before := lasting(t, d)
	refuses(t, "a request", s, create, api.ErrDisk)
	refuses(t, "one that the server would refuse", s, again, api.ErrDisk)
	refuses(t, "bytes of none", s, []byte{8, 3, 0}, api.ErrForm)
	refuses(t, "no bytes", s, nil, api.ErrForm)
	if a := told(t, s.Do(balance)); a.Err != api.OK || a.Available < 5000 {
		t.Errorf("one that only asks: %+v", a)
	}
	if over, err := s.Tick(); over != nil || err != api.ErrDisk || s.Server().Ledger().Now() != 0 {
		t.Errorf("Tick: %v, %d", over, err)
	}
	if err := s.Compact(); err != api.ErrDisk {
		t.Errorf("Compact: %d", err)
	}
	got := s.Batch([][]byte{nil, balance, create, {0}, nil, again})
	want := [][]byte{{11}, s.Do(balance), {6, 11}, {0, 2}, {11}, {6, 11}}
	if !slices.EqualFunc(got, want, bytes.Equal) {
		t.Errorf("Batch: %x, not %x", got, want)
	}
	if got := s.Batch([][]byte{balance, {9}}); !bytes.Equal(got[0], want[1]) || !bytes.Equal(got[1], []byte{0, 2}) {
		t.Errorf("Batch that only asks: %x", got)
	}
	if s.Gen() != 1 || s.Left() != 0 || !bytes.Equal(lasting(t, d), before) {
		t.Errorf("generation %d, %d left, or something was written", s.Gen(), s.Left())
	}
	// What was refused can be asked again, when there is room.
	s, _ = exactly(t, 0, true)
	if a := told(t, s.Do(create)); a.Err != api.OK || s.Gen() != 2 || s.Left() != 29 {
		t.Errorf("%+v, generation %d, %d left", a, s.Gen(), s.Left())
	}
}

func TestP26_1_RoomBehindCompact(t *testing.T) {
	create := bytesOf(t, request{Kind: wire.Create, Node: 9, Sort: 1, Limit: -1})
	s, _ := exactly(t, 0, true)
	want := pack(t, s.Server())
	if over, err := s.Tick(); over != nil || err != api.OK || s.Gen() != 2 || s.Left() != 29 {
		t.Errorf("Tick: %v, %d, generation %d, %d left", over, err, s.Gen(), s.Left())
	}
	if bytes.Equal(pack(t, s.Server()), want) {
		t.Error("nothing was done")
	}
	s, _ = exactly(t, 1, true)
	big := slices.Repeat([][]byte{nil}, 30)
	if got := s.Batch(append(big, create)); !bytes.Equal(got[30], []byte{6, 0}) || s.Gen() != 2 || s.Left() != 30-2 {
		t.Errorf("Batch: %x, generation %d, %d left", got, s.Gen(), s.Left())
	}
	// A request that the server refuses has to have room all the same.
	s, _ = exactly(t, 0, true)
	refuses(t, "it is there", s, bytesOf(t, request{Kind: wire.Create, Node: 1, Sort: 1, Limit: -1}), api.ErrThere)
	if s.Gen() != 2 || s.Left() != 30 {
		t.Errorf("generation %d, %d left", s.Gen(), s.Left())
	}
	// What has no room in an empty log has none, though Compact was done.
	s, _ = exactly(t, 5, true)
	want = pack(t, s.Server())
	most := 39 + 63*29
	if got := s.Batch(slices.Repeat([][]byte{nil}, most/2+1)); !bytes.Equal(got[0], []byte{11}) || s.Gen() != 2 || s.Left() != 30 || !bytes.Equal(pack(t, s.Server()), want) {
		t.Errorf("too much: %x, generation %d, %d left", got[0], s.Gen(), s.Left())
	}
	if got := s.Batch(slices.Repeat([][]byte{nil}, most/2)); !bytes.Equal(got[0], []byte{0}) || s.Gen() != 2 || s.Left() != 0 {
		t.Errorf("all there is: %x, generation %d, %d left", got[0], s.Gen(), s.Left())
	}
}

// An image has just as many bytes as a slot has room for; then one more.
func TestP26_1_AFullSlot(t *testing.T) {
	s, _ := formatted(t, small)
	does(t, s, request{Kind: wire.Create, Node: 1, Sort: 1, Limit: 5})
	p := s.Server().Parts()
	padded := func(n int) []byte {
		p.Events, _ = window.New(9, false)
		p.Events.Keep(0, nil, make([]byte, n))
		padded, err := server.Make(p)
		if err != api.OK {
			t.Fatal(err)
		}
		return pack(t, padded)
	}
	c := small
	c.Slot = 12
	room := 64 * 11
	b := padded(500 + room - len(padded(500)))
	d := made(t, c)
	if err := snap.Save(d, 0, c.Slot, 1, b); err != api.OK || len(b) != room {
		t.Fatalf("%d, %d bytes", err, len(b))
	}
	s = opened(t, "a full slot", d, c)
	if err := s.Compact(); err != api.OK || s.Gen() != 2 {
		t.Errorf("Compact: %d, generation %d", err, s.Gen())
	}
	does(t, s, request{Kind: wire.Limit, Node: 1, Limit: 100})
	if n, err := len(pack(t, s.Server())), s.Compact(); n != room+1 || err != api.ErrDisk || s.Gen() != 2 || s.Left() != c.Log-1 {
		t.Errorf("Compact: %d bytes, %d, generation %d, %d left", n, err, s.Gen(), s.Left())
	}
	does(t, s, request{Kind: wire.Limit, Node: 1, Limit: 6})
	if err := s.Compact(); err != api.OK || s.Gen() != 3 || s.Left() != c.Log {
		t.Errorf("Compact: %d, generation %d, %d left", err, s.Gen(), s.Left())
	}
}

// A copy of a request is answered as before, and is kept once more.
func TestP26_1_Copies(t *testing.T) {
	s, d := laidOut(t, small)
	first := bytesOf(t, request{Kind: wire.Initial, Session: 1, Node: 3, Items: []item{{Group: 1, Want: 10}}})
	a := s.Do(first)
	if told(t, a).Err != api.OK {
		t.Fatalf("%x", a)
	}
	want, gen := pack(t, s.Server()), s.Gen()
	for i := range 20 {
		left := s.Left()
		if b := s.Do(first); !bytes.Equal(a, b) || left > 0 && s.Left() != left-1 {
			t.Errorf("%x, not %x, %d left of %d", b, a, s.Left(), left)
		}
		if i%5 == 0 {
			d.Crash(nil)
			s = opened(t, "copies", d, small)
		}
	}
	if !bytes.Equal(pack(t, s.Server()), want) || s.Gen() == gen {
		t.Error("it is another one")
	}
}

func TestP26_1_TheLastTime(t *testing.T) {
	s, d := laidOut(t, small)
	p := s.Server().Parts()
	parts := p.Ledger.Parts()
	parts.Now = 1<<61 - 1
	p.Ledger, _ = ledger.Make(parts)
	last, _ := server.Make(p)
	snap.Save(d, 0, small.Slot, 8, pack(t, last))
	s = opened(t, "the last time", d, small)
	if got := s.Batch([][]byte{nil, nil, {13, 1}, nil}); !bytes.Equal(slices.Concat(got[0], got[1], got[2][:2], got[3]), []byte{0, 6, 13, 0, 6}) || s.Left() != 8 {
		t.Errorf("Batch: %x, %d left", got, s.Left())
	}
	if over, err := s.Tick(); over != nil || err != api.ErrOver || s.Left() != 8 {
		t.Errorf("Tick: %v, %d, %d left", over, err, s.Left())
	}
	if _, records, _ := frame.Open(d, 2*small.Slot, small.Log, 8); !slices.EqualFunc(records, [][]byte{{2}}, bytes.Equal) {
		t.Errorf("%x", records)
	}
	d.Crash(nil)
	if o := opened(t, "the last time", d, small); !bytes.Equal(pack(t, o.Server()), pack(t, s.Server())) {
		t.Error("it is another one")
	}
}

func TestP26_1_Batches(t *testing.T) {
	s, d := laidOut(t, small)
	left := s.Left()
	if got := s.Batch(nil); len(got) != 0 || s.Left() != left {
		t.Errorf("none: %x, %d left", got, s.Left())
	}
	initial := bytesOf(t, request{Kind: wire.Initial, Session: 4, Node: 3, Items: []item{{Group: 1, Want: 10}}})
	end := bytesOf(t, request{Kind: wire.Terminate, Session: 4, Number: 1, Items: []item{{Group: 1, Used: 3}}})
	balance := bytesOf(t, request{Kind: wire.Balance, Node: 3})
	got := s.Batch([][]byte{balance, initial, {}, balance, initial, end, {7}, balance, end, initial[:3]})
	costs := []int{}
	for _, i := range []int{0, 3, 7} {
		costs = append(costs, told(t, got[i]).Available)
	}
	if !slices.Equal(costs, []int{5000, 4970, 4991}) || !bytes.Equal(got[2], []byte{0}) || !bytes.Equal(got[4], got[1]) {
		t.Errorf("%v, %x", costs, got)
	}
	if a := told(t, got[5]); a.Cost != 9 || !bytes.Equal(got[8], got[5]) || !bytes.Equal(got[6], []byte{0, 2}) || !bytes.Equal(got[9], []byte{0, 2}) {
		t.Errorf("%x", got)
	}
	// Those that only ask, and those that had an error, aren't kept.
	_, records, _ := frame.Open(d, 2*small.Slot, small.Log, s.Gen())
	tail := records[len(records)-5:]
	want := [][]byte{append([]byte{1}, initial...), {2}, append([]byte{1}, initial...), append([]byte{1}, end...), append([]byte{1}, end...)}
	if !slices.EqualFunc(tail, want, bytes.Equal) {
		t.Errorf("%x, not %x", tail, want)
	}
	// A group of none isn't appended.
	left = s.Left()
	s.Batch([][]byte{balance, {7}, bytesOf(t, request{Kind: wire.Create, Node: 1, Sort: 1})})
	s.Do(bytesOf(t, request{Kind: wire.Create, Node: 1, Sort: 1}))
	s.Do(balance)
	if s.Left() != left {
		t.Errorf("%d left of %d", s.Left(), left)
	}
}

// Behind an ErrDown all is ErrDown, though the power is on again.
func TestP26_1_WithoutPower(t *testing.T) {
	create := bytesOf(t, request{Kind: wire.Create, Node: 9, Sort: 1, Limit: -1})
	balance := bytesOf(t, request{Kind: wire.Balance, Node: 1})
	for what, meet := range map[string]func(s *store.Store) bool{
		"Do":      func(s *store.Store) bool { return bytes.Equal(s.Do(create), []byte{6, 12}) },
		"Tick":    func(s *store.Store) bool { over, err := s.Tick(); return over == nil && err == api.ErrDown },
		"Compact": func(s *store.Store) bool { return s.Compact() == api.ErrDown },
		"Batch": func(s *store.Store) bool {
			got := s.Batch([][]byte{balance, create, nil, {7}})
			return slices.EqualFunc(got, [][]byte{{13, 12}, {6, 12}, {12}, {0, 12}}, bytes.Equal)
		},
	} {
		for _, left := range []int{0, 9} {
			for _, roomy := range []bool{true, false} {
				s, d := exactly(t, left, roomy)
				downed(t, d)
				if a := told(t, s.Do(balance)); a.Err != api.OK {
					t.Errorf("%s, %d left: one that only asks, ahead of it: %+v", what, left, a)
				}
				if got := s.Batch([][]byte{balance, {7}}); left > 0 && (told(t, got[0]).Err != api.OK || !bytes.Equal(got[1], []byte{0, 2})) {
					t.Errorf("%s, %d left: a Batch that only asks, ahead of it: %x", what, left, got)
				}
				if !meet(s) {
					t.Errorf("%s, %d left: it wasn't ErrDown", what, left)
				}
				staysDown(t, fmt.Sprintf("%s, %d left", what, left), s, d)
			}
			// It goes off in the midst of it: at the log's first sector, or at an image's.
			s, d := exactly(t, left, true)
			d.Cut(1)
			if !meet(s) {
				t.Errorf("%s, %d left: it didn't go off", what, left)
			}
			staysDown(t, fmt.Sprintf("%s, %d left, in the midst", what, left), s, d)
		}
	}
}

// staysDown holds that a store answers nothing but ErrDown, with the power off, and on again.
func staysDown(t *testing.T, what string, s *store.Store, d *disk.Disk) {
	t.Helper()
	create := bytesOf(t, request{Kind: wire.Create, Node: 9, Sort: 1, Limit: -1})
	balance, bill := bytesOf(t, request{Kind: wire.Balance, Node: 1}), bytesOf(t, request{Kind: wire.Bill, Node: 1})
	for range 2 {
		before := pack(t, s.Server())
		for _, b := range [][]byte{create, balance, bill, {7}, nil, {0}} {
			if got := s.Do(b); !bytes.Equal(got, denial(b, api.ErrDown)) {
				t.Errorf("%s: Do(%x): %x", what, b, got)
			}
		}
		got := s.Batch([][]byte{create, nil, bill, {7}})
		if !slices.EqualFunc(got, [][]byte{{6, 12}, {12}, {14, 12}, {0, 12}}, bytes.Equal) {
			t.Errorf("%s: Batch: %x", what, got)
		}
		if over, err := s.Tick(); over != nil || err != api.ErrDown || s.Compact() != api.ErrDown || !bytes.Equal(pack(t, s.Server()), before) {
			t.Errorf("%s: Tick: %v, %d", what, over, err)
		}
		d.Crash(nil)
	}
}

func TestP26_1_CompactAgainAndAgain(t *testing.T) {
	s, d := laidOut(t, small)
	want := pack(t, s.Server())
	for gen := s.Gen() + 1; gen < 20; gen++ {
		if err := s.Compact(); err != api.OK || s.Gen() != gen || s.Left() != 9 || !bytes.Equal(pack(t, s.Server()), want) {
			t.Fatalf("%d, generation %d, %d left", err, s.Gen(), s.Left())
		}
		if got, b, err := snap.Load(d, 0, small.Slot); got != gen || err != api.OK || !bytes.Equal(b, want) {
			t.Fatalf("%d: %d", got, err)
		}
		if gen%4 == 0 {
			d.Crash(nil)
			s = opened(t, "Compact", d, small)
		}
		if gen%3 == 0 {
			s.Tick()
			want = pack(t, s.Server())
		}
	}
	// Behind the last generation there is no other.
	snap.Save(d, 0, small.Slot, math.MaxInt, want)
	s = opened(t, "the last generation", d, small)
	s.Tick()
	want = pack(t, s.Server())
	if err := s.Compact(); err != api.ErrDisk || s.Gen() != math.MaxInt || s.Left() != 8 {
		t.Errorf("%d, generation %d, %d left", err, s.Gen(), s.Left())
	}
	for s.Left() > 0 {
		s.Tick()
	}
	if _, err := s.Tick(); err != api.ErrDisk || told(t, s.Do(lays(t)[1])).Err != api.ErrDisk {
		t.Errorf("%d", err)
	}
	want = pack(t, s.Server())
	if s = opened(t, "the last generation", d, small); !bytes.Equal(pack(t, s.Server()), want) {
		t.Error("it is another one")
	}
}

func TestP26_1_NoStore(t *testing.T) {
	create := bytesOf(t, request{Kind: wire.Create, Node: 9, Sort: 1, Limit: -1})
	for _, s := range []*store.Store{nil, {}} {
		for _, b := range [][]byte{nil, {7}, create, bytesOf(t, request{Kind: wire.Balance})} {
			if got := s.Do(b); !bytes.Equal(got, []byte{0, 1}) {
				t.Errorf("Do(%x): %x", b, got)
			}
		}
		if got := s.Batch([][]byte{create, nil, {7}, {13, 1}}); !slices.EqualFunc(got, [][]byte{{0, 1}, {1}, {0, 1}, {0, 1}}, bytes.Equal) {
			t.Errorf("Batch: %x", got)
		}
		if over, err := s.Tick(); over != nil || err != api.ErrArg || s.Compact() != api.ErrArg || len(s.Batch(nil)) != 0 {
			t.Errorf("Tick: %v, %d", over, err)
		}
		if s.Server() != nil || s.Gen() != 0 || s.Left() != 0 {
			t.Errorf("%v, %d, %d", s.Server(), s.Gen(), s.Left())
		}
	}
}

// Compact changes no answer: a store on which it is done all the time answers as one on which it never is.
func TestP26_3_CompactChangesNoAnswer(t *testing.T) {
	for seed := range int64(20) {
		p := &player{Rand: newRand(seed)}
		c := small
		c.Slot, c.Log = 400, 300
		one, _ := formatted(t, c)
		two, d := formatted(t, c)
		for i := range 200 {
			b := draw(t, p.Rand, one.Server())
			if i < len(lays(t)) {
				b = lays(t)[i]
			}
			what := fmt.Sprintf("script %d, step %d: %x", seed, i, b)
			if p.Intn(2) == 0 {
				if err := two.Compact(); err != api.OK {
					t.Fatalf("%s: Compact: %d", what, err)
				}
			}
			if got, want := two.Batch([][]byte{b}), one.Batch([][]byte{b}); !slices.EqualFunc(got, want, bytes.Equal) {
				t.Fatalf("%s: %x, not %x", what, got, want)
			}
			if p.Intn(30) == 0 {
				two = opened(t, what, d, c)
			}
			if !bytes.Equal(pack(t, one.Server()), pack(t, two.Server())) {
				t.Fatalf("%s: they are unlike", what)
			}
		}
	}
}

func TestP26_4_NothingIsChangedOrKept(t *testing.T) {
	s, d := laidOut(t, small)
	first := bytesOf(t, request{Kind: wire.Initial, Session: 1, Node: 3, Items: []item{{Group: 1, Want: 10}}})
	room := append(slices.Clone(first), 77, 77)
	a := s.Do(room[:len(first)])
	if !bytes.Equal(room, append(slices.Clone(first), 77, 77)) {
		t.Error("Do changed its argument")
	}
	want := slices.Clone(a)
	clear(room)
	clear(a[:cap(a)])
	if again := s.Do(first); !bytes.Equal(again, want) {
		t.Errorf("%x, not %x", again, want)
	}
	l := [][]byte{slices.Clone(first), nil, bytesOf(t, request{Kind: wire.TopUp, Node: 1, Amount: 9}), {7}, {77}}
	kept := copied(l)
	got := s.Batch(l[:4])
	if !slices.EqualFunc(l, kept, bytes.Equal) || !bytes.Equal(got[0], want) {
		t.Errorf("Batch changed its argument, or %x isn't %x", got[0], want)
	}
	for _, b := range l {
		clear(b)
	}
	clear(l)
	b := copied(got)
	clear(got[0][:cap(got[0])])
	if !slices.EqualFunc(got[1:], b[1:], bytes.Equal) {
		t.Error("two answers share their bytes")
	}
	if again := s.Batch(kept[:1]); !bytes.Equal(again[0], want) {
		t.Errorf("%x, not %x", again[0], want)
	}
	held := pack(t, s.Server())
	d.Crash(nil)
	o := opened(t, "kept", d, small)
	if !bytes.Equal(pack(t, o.Server()), held) || o.Server() == s.Server() {
		t.Error("it is another one")
	}
	for range 9 {
		s.Tick()
	}
	if !bytes.Equal(pack(t, o.Server()), held) {
		t.Error("two stores share what they have")
	}
}
