package world_test

import (
	"bytes"
	"fmt"
	"math/rand"
	"slices"
	"testing"

	"purser/api"
	"purser/store"
	"purser/wire"
	"purser/world"
)

// states answers the images behind each event of a script without a Cut, the first one ahead of all.
func states(t *testing.T, c store.Config, l []event) [][]byte {
	t.Helper()
	m := fresh(t, c)
	all := [][]byte{m.pack()}
	for _, e := range l {
		m.do(e)
		all = append(all, m.pack())
	}
	return all
}

// subsets answers what a crash may keep: each choice of two sectors, nothing of many, all of them, and some.
func subsets(r *rand.Rand, many int) [][]bool {
	l := [][]bool{nil, {true}, {false, true}, {true, true}, slices.Repeat([]bool{true}, many)}
	for range 4 {
		l = append(l, chances(r, many))
	}
	return l
}

// cutsAt lets the power go off at each sector that an event of a script writes, lets a crash keep each of the subsets, lets the
// script go on, and holds that all is as it was answered, or as it was under way to; it answers how many sectors there were.
func cutsAt(t *testing.T, c store.Config, l []event, i int, images [][]byte, kinds map[string]int) int {
	t.Helper()
	r := rand.New(rand.NewSource(int64(i)))
	for n := 1; ; n++ {
		torn := append(slices.Clone(l[:i]), cut(n), l[i])
		what := fmt.Sprintf("event %d, %+v, cut off at %d", i, l[i], n)
		first := run(t, what, c, torn)
		if !bytes.Equal(first.Answers[i+1], off(l[i])) || !writes(l[i]) {
			if !bytes.Equal(first.Image, images[i+1]) {
				t.Fatalf("%s: it was answered, and is another one", what)
			}
			return n - 1
		}
		if !bytes.Equal(first.Image, images[i]) {
			t.Fatalf("%s, nothing kept: it isn't as it was", what)
		}
		for _, kept := range subsets(r, 40) {
			what := fmt.Sprintf("%s, kept %v", what, kept)
			crashed := append(slices.Clone(torn), event{Kind: world.Crash, Kept: kept})
			got := run(t, what, c, crashed)
			next := slices.IndexFunc(images[i:i+2], func(b []byte) bool { return bytes.Equal(b, got.Image) })
			if next < 0 {
				t.Fatalf("%s: it is another one", what)
			}
			kinds[fmt.Sprint("behind ", next)]++
			goesOn(t, what, c, crashed, images[i+next], append([]event{tick}, l[i:]...))
		}
	}
}

// goesOn holds that a script that has crashed goes on as a server of its image does.
func goesOn(t *testing.T, what string, c store.Config, crashed []event, at []byte, behind []event) {
	t.Helper()
	got, m := run(t, what, c, append(slices.Clone(crashed), behind...)), from(t, at)
	for k, e := range behind {
		if want := m.do(e); !bytes.Equal(got.Answers[len(crashed)+k], want) {
			t.Fatalf("%s, then event %d, %+v: %x, not %x", what, k, e, got.Answers[len(crashed)+k], want)
		}
	}
	if !bytes.Equal(got.Image, m.pack()) {
		t.Fatalf("%s: it went on as another one", what)
	}
}

func TestP30_3_ACutAtEachSectorOfEachEvent(t *testing.T) {
	for name, c := range map[string]store.Config{"wide": wide, "narrow": narrow} {
		l := append(story(t), ask(t, request{Kind: wire.Price, Plan: flat(7, 1)}), compact)
		images := states(t, c, l)
		kinds, most := map[string]int{}, map[int]int{}
		for i, e := range l {
			sectors := cutsAt(t, c, l, i, images, kinds)
			if !writes(e) && sectors > 0 {
				t.Errorf("%s: event %d, %+v, writes %d sectors", name, i, e, sectors)
			}
			r, _ := wire.Asked(e.Bytes)
			kind := 100*e.Kind + r.Kind
			most[kind] = max(most[kind], sectors)
		}
		for kind := wire.Initial; kind <= wire.Roll; kind++ {
			if most[100*world.Ask+kind] < 1 {
				t.Errorf("%s: requests of kind %d were never cut off", name, kind)
			}
		}
		if most[100*world.Tick] < 1 || most[100*world.Compact] < 5 || kinds["behind 0"] < 100 || kinds["behind 1"] < 100 {
			t.Errorf("%s: %v, %v", name, most, kinds)
		}
	}
}

// What a request of several sectors writes is there wholly, or not at all, whatever of it is kept.
func TestP30_3_EachSubsetOfAGroup(t *testing.T) {
	l := lays(t)
	var first, more []item
	for group := 1; group <= 4; group++ {
		l = append(l, ask(t, request{Kind: wire.Price, Plan: flat(group, 0)}))
		first = append(first, item{Group: group, Want: api.MaxUnits})
		more = append(more, item{Group: group, Used: api.MaxUnits, Want: api.MaxUnits})
	}
	l = append(l, ask(t, request{Kind: wire.Initial, Session: 1 << 60, Node: 3, Items: first}))
	// Its record has more bytes than there is room for in a head, so there is a sector behind.
	l = append(l, ask(t, request{Kind: wire.Update, Session: 1 << 60, Number: 1, Items: more}))
	images := states(t, wide, l)
	last := len(l) - 1
	was := map[int]int{}
	for n := 1; n <= 2; n++ {
		for mask := range 8 {
			kept := []bool{mask&1 > 0, mask&2 > 0, mask&4 > 0}
			got := run(t, "a group", wide, append(slices.Clone(l[:last]), cut(n), l[last], event{Kind: world.Crash, Kept: kept}))
			next := slices.IndexFunc(images[last:], func(b []byte) bool { return bytes.Equal(b, got.Image) })
			if want := n / 2 * (mask & 1); next != want {
				t.Errorf("cut off at %d, kept %v: %d, not %d", n, kept, next, want)
			}
			was[next]++
		}
	}
	if r := run(t, "a group", wide, append(slices.Clone(l[:last]), cut(3), l[last])); !bytes.Equal(r.Image, images[last+1]) || was[0] == 0 || was[1] == 0 {
		t.Errorf("it isn't of two sectors: %v", was)
	}
}

// pair is what a script with crashes may have come to: what was answered, and what is under way, if the power is off.
type pair struct {
	t        *testing.T
	c        store.Config
	answered *model
	under    []byte
	off      bool
}

// step holds an event's answer to the model, and answers whether the power went off in it.
func (p *pair) step(what string, e event, got []byte) {
	p.t.Helper()
	switch {
	case e.Kind == world.Crash || e.Kind == world.Cut:
		if len(got) != 0 {
			p.t.Fatalf("%s: %x", what, got)
		}
	case p.off:
		if !bytes.Equal(got, off(e)) {
			p.t.Fatalf("%s, without power: %x", what, got)
		}
	default:
		before := p.answered.pack()
		want := p.answered.do(e)
		if bytes.Equal(got, want) {
			return
		}
		if !bytes.Equal(got, off(e)) || !writes(e) {
			p.t.Fatalf("%s: %x, not %x", what, got, want)
		}
		p.off, p.under = true, p.answered.pack()
		p.answered = from(p.t, before)
	}
}

// crashed holds that an image is one of those that may be there, and goes on with it.
func (p *pair) crashed(what string, b []byte) int {
	p.t.Helper()
	next := 0
	switch {
	case bytes.Equal(b, p.answered.pack()):
	case p.off && bytes.Equal(b, p.under):
		next = 1
	default:
		p.t.Fatalf("%s: it is another one", what)
	}
	p.answered, p.off = from(p.t, b), false
	return next
}

// Cuts and crashes of all kinds, one behind the other.
func TestP30_3_ManyCutsAndCrashes(t *testing.T) {
	seen := map[string]int{}
	for seed := range int64(30) {
		r := rand.New(rand.NewSource(seed))
		c := narrow
		c.Log = 2 + r.Intn(12)
		c.Ledger.Validity = 1 + r.Intn(6)
		p := &pair{t: t, c: c, answered: fresh(t, c)}
		var l []event
		for i := range 160 {
			var e event
			switch n := r.Intn(10); {
			case i < 20 && i%2 == 0:
				e = lays(t)[i/2]
			case n < 2:
				e = cut(r.Intn(6))
			case n < 3 || p.off && n < 7:
				e = event{Kind: world.Crash, Kept: chances(r, r.Intn(30))}
			default:
				e = drawn(t, r, p.answered.s)
			}
			l = append(l, e)
			what := title(seed, i)
			got := run(t, what, c, l)
			was := p.off
			p.step(what, e, got.Answers[i])
			if p.off && !was {
				seen["off"]++
			}
			if e.Kind == world.Crash {
				if p.off {
					seen["crashes without power"]++
				}
				seen[fmt.Sprint("behind ", p.crashed(what, got.Image))]++
			} else if !bytes.Equal(got.Image, p.answered.pack()) {
				// The crash behind the last event keeps nothing, so it is as it was answered.
				t.Fatalf("%s: the Image is another one", what)
			}
		}
	}
	for what, n := range map[string]int{"off": 200, "crashes without power": 200, "behind 0": 300, "behind 1": 40} {
		if seen[what] < n {
			t.Errorf("%s: only %d times", what, seen[what])
		}
	}
}

// Without a finding, whatever the script is: events by chance, of any bytes and numbers.
func TestP30_2_AnyScript(t *testing.T) {
	numbers := []int{-1 << 63, -7, -1, 0, 1, 2, 3, 4, 5, 6, 9, 30, 1 << 40, 1<<63 - 1}
	for seed := range int64(60) {
		r := rand.New(rand.NewSource(seed))
		c := store.Config{Ledger: narrow.Ledger, Slot: 5 + r.Intn(60), Log: 1 + r.Intn(9)}
		m := fresh(t, c)
		l := lays(t)
		for _, e := range l {
			m.do(e)
		}
		for len(l) < 480 {
			e := drawn(t, r, m.s)
			switch r.Intn(12) {
			case 0:
				e = cut(r.Intn(20))
			case 1, 2:
				e = event{Kind: world.Crash, Kept: chances(r, r.Intn(60))}
			case 3:
				e.Kind, e.N = numbers[r.Intn(len(numbers))], numbers[r.Intn(len(numbers))]
			case 4:
				e.Bytes = slices.Clone(e.Bytes)
				if len(e.Bytes) > 0 {
					e.Bytes[r.Intn(len(e.Bytes))] = byte(r.Intn(256))
				}
			case 5:
				e = event{Kind: world.Ask, Bytes: make([]byte, r.Intn(12))}
				r.Read(e.Bytes)
			}
			m.do(e)
			l = append(l, e)
		}
		run(t, fmt.Sprint("script ", seed), c, l)
	}
}
