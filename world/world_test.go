package world_test

import (
	"bytes"
	"fmt"
	"math"
	"math/rand"
	"slices"
	"testing"

	"purser/api"
	"purser/ledger"
	"purser/store"
	"purser/wire"
	"purser/world"
)

func TestP30_1_NoEvent(t *testing.T) {
	for _, c := range []store.Config{wide, narrow, {Ledger: ledger.Config{Validity: 1, Places: 1, Day: 4}, Slot: 3, Log: 1}} {
		for _, l := range [][]event{nil, {}} {
			r, err := world.Run(c, l)
			if err != api.OK || len(r.Answers) != 0 || r.Crashes != 0 || r.Findings != 0 || !bytes.Equal(r.Image, fresh(t, c).pack()) {
				t.Errorf("%+v: %+v, %d", c, r, err)
			}
		}
	}
}

func TestP30_1_AStory(t *testing.T) {
	for what, c := range map[string]store.Config{"wide": wide, "narrow": narrow} {
		agrees(t, what, c, story(t))
	}
	// Not all of it is errors.
	done := map[byte]int{}
	for i, a := range run(t, "a story", wide, story(t)).Answers {
		if e := story(t)[i]; e.Kind == world.Ask && a[1] == 0 {
			done[a[0]]++
		}
	}
	for kind := byte(1); kind <= 14; kind++ {
		if done[kind] == 0 {
			t.Errorf("kind %d was never done", kind)
		}
	}
}

func TestP30_1_AnswersOfEachKind(t *testing.T) {
	l := append(lays(t), ask(t, request{Kind: wire.Balance, Node: 1}), tick, cut(0), crash, compact, event{}, event{Kind: 6}, event{Kind: -1}, event{Kind: math.MaxInt}, event{Kind: math.MinInt}, event{Kind: world.Ask})
	r := run(t, "each kind", wide, l)
	balance, _ := wire.Told(r.Answers[10])
	if balance.Kind != wire.Balance || balance.Err != api.OK || balance.Available != 5000 {
		t.Errorf("%+v", balance)
	}
	for i, want := range []string{"\x00", "", "", "\x00", "", "", "", "", "", "\x00\x02"} {
		if got := string(r.Answers[11+i]); got != want {
			t.Errorf("event %d, %+v: %x, not %x", 11+i, l[11+i], got, want)
		}
	}
	if !bytes.Equal(r.Image, run(t, "without these", wide, append(lays(t), tick)).Image) {
		t.Error("the Image is another one")
	}
}

// A Kind that is none does nothing, whatever else the event has.
func TestP30_1_KindsThatAreNone(t *testing.T) {
	want := run(t, "lays", wide, lays(t))
	for _, kind := range []int{0, 6, 7, -1, -5, 100, 257, 260, math.MinInt, math.MaxInt} {
		l := lays(t)
		for i := len(l); i >= 0; i-- {
			l = slices.Insert(l, i, event{Kind: kind, Bytes: bytesOf(t, request{Kind: wire.Shut, Node: 3}), N: 1, Kept: []bool{true, true}})
		}
		r := run(t, fmt.Sprint("kind ", kind), wide, l)
		if !bytes.Equal(r.Image, want.Image) {
			t.Errorf("kind %d: the Image is another one", kind)
		}
		for i, a := range r.Answers {
			if i%2 == 0 && len(a) != 0 || i%2 == 1 && !bytes.Equal(a, want.Answers[i/2]) {
				t.Errorf("kind %d: answer %d is %x", kind, i, a)
			}
		}
	}
}

func TestP30_1_ConfigsThatAreNone(t *testing.T) {
	for what, spoil := range map[string]func(c *store.Config){
		"no Validity":        func(c *store.Config) { c.Ledger.Validity = 0 },
		"too great Validity": func(c *store.Config) { c.Ledger.Validity = 1<<30 + 1 },
		"no Places":          func(c *store.Config) { c.Ledger.Places = 0 },
		"too many Places":    func(c *store.Config) { c.Ledger.Places = 17 },
		"too short a Day":    func(c *store.Config) { c.Ledger.Day = 3 },
		"too long a Day":     func(c *store.Config) { c.Ledger.Day = 1<<30 + 1 },
		"no Slot":            func(c *store.Config) { c.Slot = 0 },
		"a Slot below":       func(c *store.Config) { c.Slot = -1 },
		"no Log":             func(c *store.Config) { c.Log = 0 },
		"a Log below":        func(c *store.Config) { c.Log = math.MinInt },
		"too much":           func(c *store.Config) { c.Slot, c.Log = 4000, 193 },
		"far too much":       func(c *store.Config) { c.Slot = math.MaxInt },
		"nothing":            func(c *store.Config) { *c = store.Config{} },
	} {
		c := wide
		spoil(&c)
		for _, l := range [][]event{nil, story(t)} {
			if r, err := world.Run(c, l); err != api.ErrArg || !isSame(r, world.Report{}) {
				t.Errorf("%s: %+v, %d", what, r, err)
			}
		}
	}
	// All of a disk's sectors do.
	c := wide
	c.Slot, c.Log = 4000, 192
	agrees(t, "the greatest", c, story(t))
}

// A new server's image needs room.
func TestP30_1_ErrorsOfFormat(t *testing.T) {
	c := wide
	c.Slot, c.Log = 1, 50
	for _, l := range [][]event{nil, story(t)} {
		if r, err := world.Run(c, l); err != api.ErrDisk || !isSame(r, world.Report{}) {
			t.Errorf("%+v, %d", r, err)
		}
	}
}

// Of whatever config there is a report, or the error that it has.
func TestP30_1_AnyConfig(t *testing.T) {
	seen := map[api.Errno]int{}
	sizes := []int{math.MinInt, -1, 0, 1, 2, 3, 60, 2730, 4095, 4096, 8190, 8192, 8193, math.MaxInt}
	for _, slot := range sizes {
		for _, log := range sizes {
			for _, places := range []int{0, 1, 16, 17} {
				c := store.Config{Ledger: ledger.Config{Validity: 1 << 30, Places: places, Day: 4}, Slot: slot, Log: log}
				want := api.OK
				if store.Sectors(c) == 0 {
					want = api.ErrArg
				} else if len(fresh(t, c).pack()) > 64*(slot-1) {
					want = api.ErrDisk
				}
				r, err := world.Run(c, []event{tick, cut(1), tick, crash})
				if err != want || err != api.OK && !isSame(r, world.Report{}) || err == api.OK && len(r.Answers) != 4 {
					t.Errorf("%+v: %d, not %d", c, err, want)
				}
				seen[err]++
			}
		}
	}
	if len(seen) != 3 {
		t.Errorf("%v", seen)
	}
}

// A store whose slots are small, and whose log is full, refuses what it has no room for.
func TestP30_1_AFullDisk(t *testing.T) {
	c := store.Config{Ledger: wide.Ledger, Slot: 3, Log: 4}
	l := slices.Concat(lays(t), []event{compact, tick, crash, compact, tick, ask(t, request{Kind: wire.Balance, Node: 1}), event{Kind: world.Ask}})
	r := run(t, "a full disk", c, l)
	m := fresh(t, c)
	for i, e := range l[:4] {
		if want := m.do(e); !bytes.Equal(r.Answers[i], want) {
			t.Errorf("event %d: %x, not %x", i, r.Answers[i], want)
		}
	}
	told := map[byte]int{}
	for i, e := range l[4:] {
		a := r.Answers[4+i]
		r, _ := wire.Asked(e.Bytes)
		switch {
		case e.Kind == world.Crash && len(a) != 0:
			t.Errorf("a crash: %x", a)
		case e.Kind == world.Crash:
		case r.Kind == wire.Balance || e.Kind == world.Ask && r.Kind == 0:
			if want := m.do(e); !bytes.Equal(a, want) {
				t.Errorf("event %d: %x, not %x", 4+i, a, want)
			}
		default:
			told[a[len(a)-1]]++
			if a[len(a)-1] == 0 {
				m.do(e)
			}
		}
	}
	if told[11] == 0 || told[0]+told[11] != 10 || !bytes.Equal(r.Image, m.pack()) {
		t.Errorf("%v", told)
	}
}

func TestP30_1_TheFirst500(t *testing.T) {
	whole := append(lays(t), slices.Repeat([]event{tick}, 600)...)
	for _, n := range []int{499, 500, 501, 502, 600} {
		r := run(t, fmt.Sprint(n, " events"), wide, whole[:n])
		m := fresh(t, wide)
		for _, e := range whole[:min(n, 500)] {
			m.do(e)
		}
		if len(r.Answers) != min(n, 500) || !bytes.Equal(r.Image, m.pack()) || m.s.Ledger().Now() != min(n, 500)-10 {
			t.Errorf("%d events: %d answers, at %d", n, len(r.Answers), from(t, r.Image).s.Ledger().Now())
		}
	}
	// A Crash behind these isn't one of them: then the last crash, that isn't counted, comes in its place, and keeps nothing.
	l := slices.Concat(whole[:498], []event{cut(1), tick, {Kind: world.Crash, Kept: []bool{true}}, tick})
	r := run(t, "a crash too late", wide, l)
	if r.Crashes != 0 || from(t, r.Image).s.Ledger().Now() != 488 {
		t.Errorf("%d crashes, at %d", r.Crashes, from(t, r.Image).s.Ledger().Now())
	}
	l = append(slices.Clone(whole[:497]), l[498:]...)
	r = run(t, "the last one is a crash", wide, l)
	if r.Crashes != 1 || len(r.Answers) != 500 || from(t, r.Image).s.Ledger().Now() != 488 {
		t.Errorf("%d crashes, at %d", r.Crashes, from(t, r.Image).s.Ledger().Now())
	}
	agrees(t, "500 crashes", wide, slices.Repeat([]event{crash}, 510))
	agrees(t, "500 of no Kind", wide, slices.Repeat([]event{{}}, 510))
}

// A crash with the power on changes nothing, whatever it keeps; nor does one ahead of all, or one behind another.
func TestP30_1_CrashWithThePowerOn(t *testing.T) {
	for what, c := range map[string]store.Config{"wide": wide, "narrow": narrow} {
		l := story(t)
		for i := len(l); i >= 0; i-- {
			agrees(t, fmt.Sprintf("%s, ahead of event %d", what, i), c, slices.Insert(slices.Clone(l), i, crash))
		}
		for _, kept := range [][]bool{nil, {true}, {false, true}, slices.Repeat([]bool{true}, 100)} {
			all := []event{{Kind: world.Crash, Kept: kept}}
			for _, e := range l {
				all = append(all, e, event{Kind: world.Crash, Kept: kept}, event{Kind: world.Crash})
			}
			agrees(t, fmt.Sprintf("%s, kept %v", what, kept), c, all)
		}
	}
}

// Compacting between events changes no other answer.
func TestP30_1_CompactBetween(t *testing.T) {
	for what, c := range map[string]store.Config{"wide": wide, "narrow": narrow} {
		all := []event{compact}
		for i, e := range story(t) {
			all = append(all, e, compact)
			if i%3 == 0 {
				all = append(all, compact, crash)
			}
		}
		agrees(t, what, c, all)
	}
}

// A Cut that never comes changes nothing: it is too far, it is none, it is forgotten by a crash, or another one takes its place.
func TestP30_1_ACutThatNeverComes(t *testing.T) {
	for _, n := range []int{0, -1, math.MinInt, 100000, math.MaxInt} {
		for what, c := range map[string]store.Config{"wide": wide, "narrow": narrow} {
			l := story(t)
			for i := len(l); i >= 0; i -= 5 {
				l = slices.Insert(l, i, cut(n))
			}
			agrees(t, fmt.Sprintf("%s, cut %d", what, n), c, l)
		}
	}
	var forgotten, replaced []event
	for _, e := range story(t) {
		forgotten = append(forgotten, cut(1), crash, e)
		replaced = append(replaced, cut(1), cut(0), e)
	}
	agrees(t, "forgotten", narrow, forgotten)
	agrees(t, "replaced", narrow, replaced)
	// What only asks, and what is none, writes nothing.
	l := append(lays(t), cut(1), ask(t, request{Kind: wire.Balance, Node: 1}), ask(t, request{Kind: wire.Bill, Node: 1}), event{Kind: world.Ask}, event{Kind: 9}, ask(t, request{Kind: wire.Shut, Node: 77}))
	agrees(t, "asked alone", wide, l)
}

// Without power all is answered so, until a crash.
func TestP30_1_PowerThatIsOff(t *testing.T) {
	for _, kept := range [][]bool{nil, {false}, {true}, {true, true}} {
		l := append(lays(t), cut(1), tick)
		from := len(l) - 1
		l = append(l, story(t)...)
		l = append(l, cut(1), cut(0), compact)
		to := len(l)
		l = append(l, event{Kind: world.Crash, Kept: kept}, tick, ask(t, request{Kind: wire.Balance, Node: 1}))
		r := run(t, "off", wide, l)
		for i := from; i < to; i++ {
			if want := off(l[i]); !bytes.Equal(r.Answers[i], want) {
				t.Errorf("event %d, %+v: %x, not %x", i, l[i], r.Answers[i], want)
			}
		}
		m := fresh(t, wide)
		for _, e := range lays(t) {
			m.do(e)
		}
		if len(kept) > 0 && kept[0] {
			m.do(tick)
		}
		for i := to; i < len(l); i++ {
			if want := m.do(l[i]); !bytes.Equal(r.Answers[i], want) {
				t.Errorf("kept %v, event %d: %x, not %x", kept, i, r.Answers[i], want)
			}
		}
		if !bytes.Equal(r.Image, m.pack()) {
			t.Errorf("kept %v: the Image is another one", kept)
		}
	}
}

// If the power is off behind the last event, there is one more crash, that keeps nothing and isn't counted.
func TestP30_1_PowerThatIsOffAtTheEnd(t *testing.T) {
	want := run(t, "lays", wide, lays(t)).Image
	for what, behind := range map[string][]event{
		"right behind":    nil,
		"some behind":     story(t),
		"a Cut behind":    {cut(5)},
		"no Kind behind":  {{Kind: 9}},
		"an end of a Cut": {cut(0), tick},
	} {
		l := slices.Concat(lays(t), []event{cut(1), ask(t, request{Kind: wire.TopUp, Node: 1, Amount: 1})}, behind)
		if r := run(t, what, wide, l); !bytes.Equal(r.Image, want) || r.Crashes != 0 {
			t.Errorf("%s: %d crashes, another Image", what, r.Crashes)
		}
		// One more crash that is an event keeps what it is told, and is counted.
		r := run(t, what, wide, append(l, event{Kind: world.Crash, Kept: []bool{true}}))
		if got := from(t, r.Image).s.Ledger().Purse().Get(1).Topped; got != 5001 || r.Crashes != 1 {
			t.Errorf("%s: %d crashes, %d topped up", what, r.Crashes, got)
		}
	}
}

func TestP30_1_ScriptsAsTheModelSays(t *testing.T) {
	done := map[byte]int{}
	for seed := range int64(40) {
		r := rand.New(rand.NewSource(seed))
		c := store.Config{Ledger: ledger.Config{Validity: 1 + r.Intn(9), Places: 1 + r.Intn(9), Day: 24}, Slot: 400, Log: 1 + r.Intn(40)}
		l, m := lays(t), fresh(t, c)
		for _, e := range l {
			m.do(e)
		}
		for len(l) < 300 {
			e := drawn(t, r, m.s)
			if e.Kind == world.Crash {
				e.Kept = chances(r, r.Intn(4))
			}
			if a := m.do(e); len(a) == 2 && e.Kind == world.Ask || len(a) > 1 && a[1] == 0 {
				done[a[1]]++
			}
			l = append(l, e)
		}
		agrees(t, fmt.Sprint("script ", seed), c, l)
	}
	for _, err := range []byte{0, 2, 7, 8, 13, 17} {
		if done[err] < 20 {
			t.Errorf("%d was answered %d times: %v", err, done[err], done)
		}
	}
}

// A script that is run twice tells the same, and new memory each time.
func TestP30_4_NothingIsShared(t *testing.T) {
	l := slices.Concat(story(t), []event{cut(1), tick, {Kind: world.Crash, Kept: []bool{true}}, compact, tick})
	for i := range l {
		// Spare room behind what is handed in isn't written on.
		l[i].Bytes = append(make([]byte, 0, 200), l[i].Bytes...)
		l[i].Kept = append(make([]bool, 0, 20), l[i].Kept...)
	}
	l = append(make([]event, 0, 700), l...)
	l[:700][len(l)] = event{Kind: 77, N: 5}
	first := run(t, "first", narrow, l)
	want := run(t, "again", narrow, l)
	if !isSame(first, want) {
		t.Fatal("it tells another thing")
	}
	for i, e := range l {
		if slices.ContainsFunc(e.Bytes[len(e.Bytes):cap(e.Bytes)], func(b byte) bool { return b != 0 }) {
			t.Errorf("event %d: the room behind its Bytes was written on", i)
		}
		if slices.Contains(e.Kept[len(e.Kept):cap(e.Kept)], true) {
			t.Errorf("event %d: the room behind its Kept was written on", i)
		}
	}
	if x := l[:700][len(l)]; x.Kind != 77 || x.N != 5 {
		t.Error("the room behind the script was written on")
	}
	for i, a := range first.Answers {
		for k := range a {
			a[k] ^= 255
		}
		a = append(a, 1, 2, 3, 4, 5, 6, 7, 8)
		for j, b := range first.Answers {
			if j != i && j > i && !bytes.Equal(b, want.Answers[j]) {
				t.Fatalf("answers %d and %d share memory", i, j)
			}
		}
		if !bytes.Equal(first.Image, want.Image) {
			t.Fatalf("answer %d and the Image share memory", i)
		}
	}
	for i := range first.Image {
		first.Image[i] ^= 255
	}
	if !isSame(want, run(t, "behind that", narrow, l)) {
		t.Error("what was told is kept")
	}
	for i := range l {
		clear(l[i].Bytes)
		clear(l[i].Kept)
	}
	if again := run(t, "the last", narrow, story(t)); !slices.EqualFunc(want.Answers[:len(again.Answers)], again.Answers, bytes.Equal) {
		t.Error("what was told hangs on what was handed in")
	}
}
