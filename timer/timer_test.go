package timer_test

import (
	"cmp"
	"fmt"
	"maps"
	"math"
	"math/rand"
	"slices"
	"testing"

	"purser/api"
	"purser/timer"
)

const (
	maxNumber = 1 << 62
	maxTimers = 1024
)

// model is each number's time.
type model map[int]int

func (m model) set(id, at int) api.Errno {
	if id < 1 || id > maxNumber || at < 0 || at > maxNumber {
		return api.ErrArg
	}
	if _, has := m[id]; !has && len(m) >= maxTimers {
		return api.ErrFull
	}
	m[id] = at
	return api.OK
}

func (m model) drop(id int) api.Errno {
	if _, has := m[id]; !has {
		return api.ErrMiss
	}
	delete(m, id)
	return api.OK
}

func (m model) due(now int) []int {
	var all []int
	for id, at := range m {
		if at < now {
			all = append(all, id)
		}
	}
	slices.SortFunc(all, func(a, b int) int { return cmp.Or(cmp.Compare(m[a], m[b]), cmp.Compare(a, b)) })
	for _, id := range all {
		delete(m, id)
	}
	return all
}

func (m model) next() (int, bool) {
	if len(m) == 0 {
		return 0, false
	}
	return slices.Min(slices.Collect(maps.Values(m))), true
}

// agree holds that the timers tell what the model says, of its numbers and of these.
func agree(t *testing.T, what string, x *timer.Timers, m model, others ...int) {
	t.Helper()
	if n := x.Len(); n != len(m) {
		t.Errorf("%s: Len: %d, not %d", what, n, len(m))
	}
	at, ok := x.Next()
	if want, has := m.next(); at != want || ok != has {
		t.Errorf("%s: Next: %d, %v, not %d, %v", what, at, ok, want, has)
	}
	for _, id := range append(slices.Collect(maps.Keys(m)), others...) {
		want, has := m[id]
		err := api.OK
		if !has {
			err = api.ErrMiss
		}
		if at, e := x.At(id); at != want || e != err {
			t.Errorf("%s: At(%d): %d, %d, not %d, %d", what, id, at, e, want, err)
		}
	}
}

// filled answers timers, and their model, of these numbers and times.
func filled(t *testing.T, pairs ...[2]int) (*timer.Timers, model) {
	t.Helper()
	x, m := timer.New(), model{}
	for _, p := range pairs {
		if err := x.Set(p[0], p[1]); err != api.OK {
			t.Fatalf("Set(%d, %d): %d", p[0], p[1], err)
		}
		m[p[0]] = p[1]
	}
	return x, m
}

// due holds that these are due.
func due(t *testing.T, x *timer.Timers, now int, want ...int) {
	t.Helper()
	if l := x.Due(now); !slices.Equal(l, want) {
		t.Errorf("Due(%d): %v, not %v", now, l, want)
	}
}

func TestP19_1_TheExample(t *testing.T) {
	x, _ := filled(t, [2]int{7, 5}, [2]int{3, 5}, [2]int{1, 9})
	due(t, x, 6, 3, 7)
	due(t, x, 9)
	due(t, x, 10, 1)
	agree(t, "behind all", x, model{}, 1, 3, 7)
}

func TestP19_1_NewHasNone(t *testing.T) {
	for what, x := range map[string]*timer.Timers{"New": timer.New(), "zero value": new(timer.Timers)} {
		agree(t, what, x, model{}, math.MinInt, -1, 0, 1, maxNumber, maxNumber+1, math.MaxInt)
		for _, id := range []int{math.MinInt, -1, 0, 1, maxNumber, maxNumber + 1, math.MaxInt} {
			if err := x.Drop(id); err != api.ErrMiss {
				t.Errorf("%s: Drop(%d): %d", what, id, err)
			}
			due(t, x, id)
		}
		if err := x.Set(1, 2); err != api.OK {
			t.Errorf("%s: Set: %d", what, err)
		}
		agree(t, what, x, model{1: 2})
	}
	x := timer.New()
	x.Set(1, 2)
	agree(t, "another one", timer.New(), model{}, 1)
}

func TestP19_1_Nil(t *testing.T) {
	var x *timer.Timers
	for _, n := range []int{math.MinInt, -1, 0, 1, maxNumber, math.MaxInt} {
		if err := x.Set(n, n); err != api.ErrArg {
			t.Errorf("Set(%d): %d", n, err)
		}
		if err := x.Drop(n); err != api.ErrArg {
			t.Errorf("Drop(%d): %d", n, err)
		}
		if at, err := x.At(n); at != 0 || err != api.ErrArg {
			t.Errorf("At(%d): %d, %d", n, at, err)
		}
		due(t, x, n)
	}
	if at, ok := x.Next(); at != 0 || ok {
		t.Errorf("Next: %d, %v", at, ok)
	}
	if n := x.Len(); n != 0 {
		t.Errorf("Len: %d", n)
	}
}

func TestP19_1_NumbersAndTimesAtTheirEdges(t *testing.T) {
	x, m := timer.New(), model{}
	for _, p := range [][2]int{{1, 0}, {maxNumber, 0}, {2, maxNumber}, {maxNumber - 1, maxNumber}, {3, maxNumber - 1}, {4, 1}} {
		if err := x.Set(p[0], p[1]); err != api.OK {
			t.Errorf("Set(%d, %d): %d", p[0], p[1], err)
		}
		m[p[0]] = p[1]
	}
	wrong := []int{-1, maxNumber + 1, math.MinInt, math.MaxInt}
	for _, n := range wrong {
		for _, p := range [][2]int{{n, 0}, {n, 5}, {n, maxNumber}, {n, n}, {1, n}, {5, n}, {maxNumber, n}, {0, n}} {
			if err := x.Set(p[0], p[1]); err != api.ErrArg {
				t.Errorf("Set(%d, %d): %d", p[0], p[1], err)
			}
		}
	}
	for _, at := range []int{0, 5, maxNumber} {
		if err := x.Set(0, at); err != api.ErrArg {
			t.Errorf("Set(0, %d): %d", at, err)
		}
	}
	agree(t, "behind what is refused", x, m, append(wrong, 0, 5)...)
	due(t, x, math.MinInt)
	due(t, x, -1)
	due(t, x, 0)
	due(t, x, 1, 1, maxNumber)
	due(t, x, 1)
	due(t, x, maxNumber-1, 4)
	due(t, x, maxNumber, 3)
	due(t, x, maxNumber)
	due(t, x, maxNumber+1, 2, maxNumber-1)
	due(t, x, math.MaxInt)
	agree(t, "behind all", x, model{}, 1, 2, 3, 4)
}

func TestP19_1_SetWhateverItWas(t *testing.T) {
	x, m := filled(t, [2]int{1, 10}, [2]int{2, 20}, [2]int{3, 30})
	for _, at := range []int{10, 25, 20, 5, 40, 30, 0, maxNumber, 21} {
		if err := x.Set(2, at); err != api.OK {
			t.Errorf("Set(2, %d): %d", at, err)
		}
		m[2] = at
		agree(t, fmt.Sprint("2 at ", at), x, m)
	}
	due(t, x, 21, 1)
	due(t, x, 22, 2)
	if err := x.Set(2, 3); err != api.OK {
		t.Errorf("Set once more: %d", err)
	}
	due(t, x, 100, 2, 3)
}

func TestP19_1_Drop(t *testing.T) {
	x, m := filled(t, [2]int{1, 10}, [2]int{2, 20}, [2]int{3, 20}, [2]int{4, 30})
	for _, id := range []int{0, 5, -1, math.MinInt, math.MaxInt} {
		if err := x.Drop(id); err != api.ErrMiss {
			t.Errorf("Drop(%d): %d", id, err)
		}
	}
	agree(t, "behind what is refused", x, m, 0, 5)
	for _, id := range []int{2, 1, 4, 3} {
		if err := x.Drop(id); err != api.OK {
			t.Errorf("Drop(%d): %d", id, err)
		}
		delete(m, id)
		agree(t, fmt.Sprint("without ", id), x, m, id)
		if err := x.Drop(id); err != api.ErrMiss {
			t.Errorf("Drop(%d) once more: %d", id, err)
		}
	}
	due(t, x, 100)
}

func TestP19_1_SoMany(t *testing.T) {
	x, m := timer.New(), model{}
	for i := range maxTimers {
		id, at := (i*7)%maxTimers+1, (i*i)%100
		if err := x.Set(id, at); err != api.OK {
			t.Fatalf("Set of %d: %d", i, err)
		}
		m[id] = at
	}
	agree(t, "1024", x, m)
	for _, id := range []int{maxTimers + 1, maxNumber} {
		if err := x.Set(id, 5); err != api.ErrFull {
			t.Errorf("one more: %d", err)
		}
		// What is no argument is told first.
		if err := x.Set(id, -1); err != api.ErrArg {
			t.Errorf("one more, at -1: %d", err)
		}
	}
	if err := x.Set(0, 5); err != api.ErrArg {
		t.Errorf("0, when they are full: %d", err)
	}
	agree(t, "and one more", x, m, 0, maxTimers+1, maxNumber)
	for _, id := range []int{1, 512, maxTimers} {
		if err := x.Set(id, 200+id); err != api.OK {
			t.Errorf("Set(%d) again: %d", id, err)
		}
		m[id] = 200 + id
	}
	agree(t, "three again", x, m)
	if err := x.Drop(7); err != api.OK {
		t.Error(err)
	}
	delete(m, 7)
	if err := x.Set(maxNumber, 3); err != api.OK {
		t.Errorf("one for one that was dropped: %d", err)
	}
	m[maxNumber] = 3
	agree(t, "one for another", x, m, 7)
	due(t, x, 50, m.due(50)...)
	agree(t, "behind 49", x, m)
}

func TestP19_1_AgainstAModel(t *testing.T) {
	for seed := range 60 {
		r := rand.New(rand.NewSource(int64(seed)))
		x, m := timer.New(), model{}
		for range 400 {
			id, at := r.Intn(14)-1, r.Intn(32)-1
			what, got, want := "", api.OK, api.OK
			switch r.Intn(8) {
			case 0, 1, 2, 3:
				what, got, want = fmt.Sprintf("Set(%d, %d)", id, at), x.Set(id, at), m.set(id, at)
			case 4, 5:
				what, got, want = fmt.Sprintf("Drop(%d)", id), x.Drop(id), m.drop(id)
			case 6:
				what = fmt.Sprintf("Due(%d)", at/3)
				due(t, x, at/3, m.due(at/3)...)
			}
			if got != want {
				t.Fatalf("seed %d: %s: %d, not %d", seed, what, got, want)
			}
			agree(t, what, x, m, id)
		}
		if t.Failed() {
			t.Fatalf("seed %d", seed)
		}
	}
}

func TestP19_2_InWhateverStepsAllComesOnceInOrder(t *testing.T) {
	for seed := range 60 {
		r := rand.New(rand.NewSource(int64(seed)))
		x, m := timer.New(), model{}
		for range r.Intn(maxTimers + 1) {
			id, at := 1+r.Intn(2000), r.Intn(50)
			if x.Set(id, at) == api.OK {
				m[id] = at
			}
		}
		var came []int
		for now := 0; now <= 50; now += 1 + r.Intn(20) {
			came = append(came, x.Due(now)...)
		}
		came = append(came, x.Due(50)...)
		if want := m.due(math.MaxInt); !slices.Equal(came, want) {
			t.Errorf("seed %d: %v, not %v", seed, came, want)
		}
		agree(t, "behind all", x, m)
	}
}

func TestP19_3_WhatIsToldIsNewMemory(t *testing.T) {
	x, m := filled(t, [2]int{1, 1}, [2]int{2, 1}, [2]int{3, 5}, [2]int{4, 6}, [2]int{5, 7})
	first := x.Due(2)
	second := x.Due(6)
	clear(first[:cap(first)])
	if !slices.Equal(second, []int{3}) {
		t.Errorf("the second answer is %v", second)
	}
	clear(second[:cap(second)])
	m.due(6)
	agree(t, "behind changed answers", x, m, 0, 1, 2, 3)
	x.Set(9, 1)
	if slices.Contains(first[:cap(first)], 9) || slices.Contains(second[:cap(second)], 9) {
		t.Error("an answer has changed")
	}
}
