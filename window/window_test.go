package window_test

import (
	"bytes"
	"encoding/binary"
	"fmt"
	"math"
	"math/rand"
	"slices"
	"testing"

	"purser/api"
	"purser/window"
)

const (
	maxNumber = 1 << 62
	maxText   = 65536
)

// kept is a request that was answered.
type kept struct {
	number          int
	request, answer string
}

// model is what a window has to tell: all has what was ever kept.
type model struct {
	most   int
	strict bool
	all    []kept
}

// known answers what is kept still.
func (m *model) known() []kept { return m.all[max(0, len(m.all)-m.most):] }

func (m *model) last() int {
	if len(m.all) == 0 {
		return -1
	}
	return m.all[len(m.all)-1].number
}

func (m *model) look(number int, request string) (string, api.Errno) {
	if number < 0 || number > maxNumber {
		return "", api.ErrArg
	}
	for _, k := range m.known() {
		if k.number == number && k.request == request {
			return k.answer, api.OK
		}
		if k.number == number {
			return "", api.ErrClash
		}
	}
	switch {
	case number <= m.last():
		return "", api.ErrStale
	case m.strict && number > m.last()+1:
		return "", api.ErrOrder
	}
	return "", api.ErrMiss
}

func (m *model) keep(number int, request, answer string) api.Errno {
	_, err := m.look(number, request)
	switch {
	case err == api.OK:
		return api.ErrThere
	case err != api.ErrMiss:
		return err
	case len(request) > maxText || len(answer) > maxText:
		return api.ErrBig
	}
	m.all = append(m.all, kept{number, request, answer})
	return api.OK
}

// written answers a window's bytes, be it one or not.
func written(most int, strict bool, last int, l ...kept) []byte {
	b := binary.AppendUvarint(nil, uint64(most))
	if strict {
		b = append(b, 1)
	} else {
		b = append(b, 0)
	}
	b = binary.AppendVarint(b, int64(last))
	b = binary.AppendUvarint(b, uint64(len(l)))
	for _, k := range l {
		b = binary.AppendUvarint(b, uint64(k.number))
		for _, text := range []string{k.request, k.answer} {
			b = append(binary.AppendUvarint(b, uint64(len(text))), text...)
		}
	}
	return b
}

// agree holds that the window tells what the model says, of all that was ever kept and of these numbers.
func agree(t *testing.T, what string, w *window.Window, m *model, numbers ...int) {
	t.Helper()
	if w.Last() != m.last() || w.Len() != len(m.known()) {
		t.Errorf("%s: Last %d, Len %d, not %d, %d", what, w.Last(), w.Len(), m.last(), len(m.known()))
	}
	all := slices.Clone(m.all)
	for _, n := range append(numbers, m.last(), m.last()+1, m.last()+2) {
		all = append(all, kept{n, "?", ""})
	}
	for _, k := range all {
		for _, request := range []string{k.request, k.request + "!", ""} {
			answer, err := m.look(k.number, request)
			if got, e := w.Look(k.number, []byte(request)); string(got) != answer || e != err {
				t.Errorf("%s: Look(%d, %.20q): %.20q, %d, not %.20q, %d", what, k.number, request, got, e, answer, err)
			}
		}
	}
	want := written(m.most, m.strict, m.last(), m.known()...)
	if b, err := w.Write(); !bytes.Equal(b, want) || err != api.OK {
		t.Errorf("%s: Write: %.100x, %d, not %.100x", what, b, err, want)
	}
}

// made answers a window and its model.
func made(t *testing.T, most int, strict bool, numbers ...int) (*window.Window, *model) {
	t.Helper()
	w, err := window.New(most, strict)
	if w == nil || err != api.OK {
		t.Fatalf("New(%d): %d", most, err)
	}
	m := &model{most: most, strict: strict}
	for _, n := range numbers {
		keeps(t, w, m, n, fmt.Sprint("r", n), fmt.Sprint("a", n))
	}
	return w, m
}

// keeps holds that a Keep answers what the model says.
func keeps(t *testing.T, w *window.Window, m *model, number int, request, answer string) {
	t.Helper()
	want := m.keep(number, request, answer)
	if err := w.Keep(number, []byte(request), []byte(answer)); err != want {
		t.Errorf("Keep(%d, %.20q, %.20q): %d, not %d", number, request, answer, err, want)
	}
}

// refuses holds that a Keep answers this error, and that the window is as it was.
func refuses(t *testing.T, w *window.Window, m *model, number int, request, answer string, want api.Errno) {
	t.Helper()
	if err := w.Keep(number, []byte(request), []byte(answer)); err != want {
		t.Errorf("Keep(%d, %.20q, %.20q): %d, not %d", number, request, answer, err, want)
	}
	agree(t, fmt.Sprintf("Keep(%d, %.20q, %.20q) refused", number, request, answer), w, m, number)
}

// looks holds that a Look answers this.
func looks(t *testing.T, w *window.Window, number int, request, answer string, want api.Errno) {
	t.Helper()
	if got, err := w.Look(number, []byte(request)); string(got) != answer || err != want {
		t.Errorf("Look(%d, %.20q): %.20q, %d, not %.20q, %d", number, request, got, err, answer, want)
	}
}

// noNumbers are no numbers of requests.
var noNumbers = []int{-1, maxNumber + 1, math.MinInt, math.MaxInt}

func TestP18_1_TheExample(t *testing.T) {
	w, _ := made(t, 2, true, 0, 1, 2)
	looks(t, w, 0, "r0", "", api.ErrStale)
	looks(t, w, 1, "r1", "a1", api.OK)
	looks(t, w, 2, "r2", "a2", api.OK)
	looks(t, w, 2, "r1", "", api.ErrClash)
	looks(t, w, 3, "r3", "", api.ErrMiss)
	looks(t, w, 4, "r4", "", api.ErrOrder)
}

func TestP18_1_MostAtItsEdges(t *testing.T) {
	for _, strict := range []bool{false, true} {
		for _, most := range []int{0, 65, -1, math.MinInt, math.MaxInt} {
			if w, err := window.New(most, strict); w != nil || err != api.ErrArg {
				t.Errorf("New(%d): %v, %d", most, w, err)
			}
		}
		for _, most := range []int{1, 2, 63, 64} {
			w, m := made(t, most, strict)
			agree(t, "New", w, m, 0, 1, 2)
			for n := range most {
				keeps(t, w, m, n, "r", fmt.Sprint(n))
				agree(t, fmt.Sprint(n, " of ", most), w, m)
			}
			looks(t, w, 0, "r", "0", api.OK)
			keeps(t, w, m, most, "r", "more")
			agree(t, "one more than there is room for", w, m)
			looks(t, w, 0, "r", "", api.ErrStale)
			if w.Len() != most || w.Last() != most {
				t.Errorf("Len %d, Last %d of %d", w.Len(), w.Last(), most)
			}
		}
	}
}

func TestP18_1_NumbersAtTheirEdges(t *testing.T) {
	for _, strict := range []bool{false, true} {
		w, m := made(t, 3, strict)
		for range 3 {
			for _, n := range noNumbers {
				looks(t, w, n, "r", "", api.ErrArg)
				refuses(t, w, m, n, "r", "a", api.ErrArg)
				refuses(t, w, m, n, string(make([]byte, maxText+1)), "a", api.ErrArg)
			}
			keeps(t, w, m, m.last()+1, "r", "a")
		}
	}
	w, m := made(t, 3, false, 0, maxNumber-1)
	looks(t, w, maxNumber, "r", "", api.ErrMiss)
	keeps(t, w, m, maxNumber, "r", "a")
	agree(t, "the greatest one", w, m, append(noNumbers, 0, 1, maxNumber-2, maxNumber-1, maxNumber)...)
	looks(t, w, maxNumber, "r", "a", api.OK)
	keeps(t, w, m, maxNumber, "q", "a")
	keeps(t, w, m, 1, "q", "a")
	first, fm := made(t, 1, false, maxNumber)
	agree(t, "the greatest one alone", first, fm, 0, maxNumber-1)
}

func TestP18_1_KeepOfWhatIsKept(t *testing.T) {
	big := string(make([]byte, maxText+1))
	for _, strict := range []bool{false, true} {
		w, m := made(t, 2, strict, 0, 1, 2)
		for _, n := range []int{1, 2} {
			request, answer := fmt.Sprint("r", n), fmt.Sprint("a", n)
			refuses(t, w, m, n, request, answer, api.ErrThere)
			refuses(t, w, m, n, request, "another", api.ErrThere)
			refuses(t, w, m, n, request, big, api.ErrThere)
			for _, other := range []string{"", "r", "r0", request + " ", big} {
				refuses(t, w, m, n, other, answer, api.ErrClash)
				refuses(t, w, m, n, other, big, api.ErrClash)
			}
		}
		refuses(t, w, m, 0, "r0", "a0", api.ErrStale)
		refuses(t, w, m, 0, "q", "a0", api.ErrStale)
		refuses(t, w, m, 0, big, big, api.ErrStale)
	}
}

func TestP18_1_KeepOfAGap(t *testing.T) {
	big := string(make([]byte, maxText+1))
	w, m := made(t, 3, true)
	for next := range 5 {
		for _, n := range []int{next + 1, next + 2, 1000, maxNumber} {
			looks(t, w, n, "r", "", api.ErrOrder)
			refuses(t, w, m, n, "r", "a", api.ErrOrder)
			refuses(t, w, m, n, big, big, api.ErrOrder)
		}
		looks(t, w, next, "r", "", api.ErrMiss)
		keeps(t, w, m, next, "r", "a")
	}
	w, m = made(t, 3, false)
	for _, n := range []int{5, 7, 10, 100, maxNumber - 5, maxNumber - 3} {
		looks(t, w, n, "r", "", api.ErrMiss)
		keeps(t, w, m, n, "r", "a")
		agree(t, fmt.Sprint("behind ", n), w, m, n-1, n, n+1, 0, 8, 99)
		refuses(t, w, m, n-1, "r", "a", api.ErrStale)
	}
}

func TestP18_1_BytesAtTheirMost(t *testing.T) {
	full, big := string(make([]byte, maxText)), string(make([]byte, maxText+1))
	for _, strict := range []bool{false, true} {
		w, m := made(t, 2, strict, 0)
		refuses(t, w, m, 1, big, "a", api.ErrBig)
		refuses(t, w, m, 1, "r", big, api.ErrBig)
		refuses(t, w, m, 1, big, big, api.ErrBig)
		refuses(t, w, m, 1, full, big, api.ErrBig)
		refuses(t, w, m, 1, big, "", api.ErrBig)
		looks(t, w, 1, big, "", api.ErrMiss)
		keeps(t, w, m, 1, full, full)
		keeps(t, w, m, 2, "", "")
		agree(t, "the longest and the shortest", w, m)
		looks(t, w, 1, full, full, api.OK)
		looks(t, w, 1, big, "", api.ErrClash)
		looks(t, w, 2, "", "", api.OK)
		if _, err := w.Look(2, nil); err != api.OK {
			t.Errorf("nil and empty are one: %d", err)
		}
	}
}

func TestP18_1_Nil(t *testing.T) {
	var w *window.Window
	for _, n := range []int{math.MinInt, -1, 0, 1, maxNumber, math.MaxInt} {
		looks(t, w, n, "r", "", api.ErrArg)
		if err := w.Keep(n, nil, nil); err != api.ErrArg {
			t.Errorf("Keep(%d): %d", n, err)
		}
	}
	if b, err := w.Write(); len(b) != 0 || err != api.ErrArg || w.Last() != 0 || w.Len() != 0 {
		t.Errorf("%x, %d, %d, %d", b, err, w.Last(), w.Len())
	}
}

func TestP18_1_ZeroValueDoesNotPanic(t *testing.T) {
	var w window.Window
	looks(t, &w, 3, "r", "", api.ErrMiss)
	w.Keep(3, []byte("r"), []byte("a"))
	if w.Len() != 0 || w.Last() != -1 {
		t.Errorf("%d, %d", w.Len(), w.Last())
	}
}

func TestP18_1_AgainstAModel(t *testing.T) {
	seen := map[string]int{}
	for seed := range 80 {
		r := rand.New(rand.NewSource(int64(seed)))
		w, m := made(t, 1+r.Intn(6), r.Intn(2) == 0)
		for range 150 {
			n := m.last() + 1 - r.Intn(9) + r.Intn(5)
			if r.Intn(3) == 0 {
				n = m.last() + 1
			}
			request, answer := fmt.Sprint(r.Intn(2)), fmt.Sprint(r.Intn(1000))
			_, err := m.look(n, request)
			seen[fmt.Sprintf("%v%d", m.strict, err)]++
			keeps(t, w, m, n, request, answer)
			agree(t, fmt.Sprint("seed ", seed), w, m, n)
		}
		if t.Failed() {
			t.FailNow()
		}
	}
	for _, what := range []string{"true0", "true1", "true7", "true13", "true14", "true15", "false0", "false1", "false7", "false13", "false14"} {
		if seen[what] < 20 {
			t.Errorf("%s: seen %d times", what, seen[what])
		}
	}
}

func TestP18_2_AsLongAsNotSoManyCameBehindIt(t *testing.T) {
	for _, strict := range []bool{false, true} {
		for _, most := range []int{1, 2, 4, 16, 64} {
			w, m := made(t, most, strict)
			for n := range 3*most + 5 {
				keeps(t, w, m, n, fmt.Sprint("r", n), fmt.Sprint("a", n))
				for old := range n + 1 {
					request := fmt.Sprint("r", old)
					if n-old < most {
						looks(t, w, old, request, fmt.Sprint("a", old), api.OK)
					} else {
						looks(t, w, old, request, "", api.ErrStale)
						looks(t, w, old, "q", "", api.ErrStale)
					}
				}
			}
			refuses(t, w, m, 0, "r0", "a0", api.ErrStale)
		}
	}
}

func TestP18_2_AGapIsStaleBehindIt(t *testing.T) {
	w, m := made(t, 2, false, 3, 9)
	for _, n := range []int{0, 1, 2, 4, 8} {
		looks(t, w, n, "r", "", api.ErrStale)
		refuses(t, w, m, n, "r", "a", api.ErrStale)
	}
}

func TestP18_3_Bytes(t *testing.T) {
	w, _ := made(t, 3, true, 0, 1)
	want := []byte{3, 1, 2, 2, 0, 2, 'r', '0', 2, 'a', '0', 1, 2, 'r', '1', 2, 'a', '1'}
	if b, err := w.Write(); !bytes.Equal(b, want) || err != api.OK {
		t.Errorf("%x, %d, not %x", b, err, want)
	}
	w, _ = made(t, 64, false)
	if b, err := w.Write(); !bytes.Equal(b, []byte{64, 0, 1, 0}) || err != api.OK {
		t.Errorf("%x, %d", b, err)
	}
}

// back holds that a window comes back from these bytes, as the model is.
func back(t *testing.T, b []byte, m *model) *window.Window {
	t.Helper()
	w, err := window.Read(b)
	if w == nil || err != api.OK {
		t.Fatalf("Read(%.100x): %d", b, err)
	}
	agree(t, fmt.Sprintf("Read(%.100x)", b), w, m)
	return w
}

// refused holds that these bytes are no window's.
func refused(t *testing.T, what string, b []byte) {
	t.Helper()
	if w, err := window.Read(b); w != nil || err != api.ErrForm {
		t.Errorf("%s: Read(%.100x): %v, %d", what, b, w, err)
	}
}

// some answers kept ones of these numbers.
func some(numbers ...int) []kept {
	var l []kept
	for _, n := range numbers {
		l = append(l, kept{n, fmt.Sprint("r", n), fmt.Sprint("a", n)})
	}
	return l
}

func TestP18_3_AWindowComesBack(t *testing.T) {
	for seed := range 60 {
		r := rand.New(rand.NewSource(int64(seed)))
		w, m := made(t, 1+r.Intn(64), r.Intn(2) == 0)
		grow := func(w *window.Window) {
			n := m.last() + 1
			if !m.strict {
				n += r.Intn(1 << r.Intn(50))
			}
			request, answer := make([]byte, r.Intn(300)), make([]byte, r.Intn(300))
			r.Read(request)
			r.Read(answer)
			keeps(t, w, m, n, string(request), string(answer))
		}
		for range r.Intn(100) {
			grow(w)
		}
		b, err := w.Write()
		if err != api.OK {
			t.Fatal(err)
		}
		again := back(t, b, m)
		// And it goes on as the first one would.
		for range 5 {
			grow(again)
			agree(t, "behind a Read", again, m)
		}
	}
}

func TestP18_3_BytesAtTheirEdges(t *testing.T) {
	for _, most := range []int{1, 64} {
		for _, strict := range []bool{false, true} {
			back(t, written(most, strict, -1), &model{most: most, strict: strict})
			back(t, written(most, strict, 0, some(0)...), &model{most, strict, some(0)})
		}
	}
	full := string(make([]byte, maxText))
	longest := []kept{{0, full, ""}, {1, "", full}}
	back(t, written(2, true, 1, longest...), &model{2, true, longest})
	for _, l := range [][]kept{some(maxNumber), some(5), some(maxNumber - 1)} {
		for _, strict := range []bool{false, true} {
			back(t, written(1, strict, l[0].number, l...), &model{1, strict, l})
		}
		back(t, written(2, false, l[0].number, l...), &model{2, false, l})
		back(t, written(64, false, l[0].number, l...), &model{64, false, l})
	}
	back(t, written(2, true, maxNumber, some(maxNumber-1, maxNumber)...), &model{2, true, some(maxNumber-1, maxNumber)})
	back(t, written(3, true, 2, some(0, 1, 2)...), &model{3, true, some(0, 1, 2)})
	back(t, written(3, true, 7, some(5, 6, 7)...), &model{3, true, some(5, 6, 7)})
	back(t, written(3, false, 70, some(5, 6, 70)...), &model{3, false, some(5, 6, 70)})
	back(t, written(4, false, 70, some(0, 6, 70)...), &model{4, false, some(0, 6, 70)})
}

func TestP18_3_WhatIsNoWindow(t *testing.T) {
	refused(t, "nothing", nil)
	refused(t, "nothing", []byte{})
	for _, strict := range []bool{false, true} {
		for _, most := range []int{0, 65, 66, 128, math.MaxInt} {
			refused(t, "most", written(most, strict, -1))
			refused(t, "most", written(most, strict, 0, some(0)...))
		}
		for _, last := range []int{0, 1, -2, maxNumber, math.MinInt, math.MaxInt} {
			refused(t, "Last of none", written(3, strict, last))
		}
		for _, last := range []int{0, 1, 3, -1, -2, maxNumber, math.MinInt, math.MaxInt} {
			refused(t, "Last of others", written(3, strict, last, some(0, 1, 2)...))
		}
		refused(t, "more than most", written(1, strict, 1, some(0, 1)...))
		refused(t, "more than most", written(2, strict, 2, some(0, 1, 2)...))
		refused(t, "more than most", written(2, strict, 1, some(0, 0, 1)...))
		for _, numbers := range [][]int{{0, 0}, {1, 0}, {0, 1, 1}, {0, 2, 1}, {1, 0, 1}, {5, 5, 6}, {2, 0, 1}, {maxNumber, 0}, {maxNumber, maxNumber}} {
			for _, most := range []int{len(numbers), len(numbers) + 1, 64} {
				refused(t, fmt.Sprint("they don't rise: ", numbers), written(most, strict, numbers[len(numbers)-1], some(numbers...)...))
			}
		}
		for _, n := range []int{maxNumber + 1, math.MaxInt} {
			refused(t, "a number", written(1, strict, n, some(n)...))
			refused(t, "a number", written(64, strict, n, some(0, n)...))
		}
		long := string(make([]byte, maxText+1))
		refused(t, "a request too long", written(1, strict, 0, kept{0, long, "a"}))
		refused(t, "an answer too long", written(1, strict, 0, kept{0, "r", long}))
		b := written(3, strict, 2, some(0, 1, 2)...)
		b[3] = 4
		refused(t, "one too few", b)
		b[3] = 2
		refused(t, "one too many", b)
		b[3] = 3
		b[1] = 2
		refused(t, "no flag", b)
	}
}

func TestP18_3_AStrictWindowHasNoGaps(t *testing.T) {
	for _, numbers := range [][]int{{0, 2}, {5, 7}, {0, 1, 3}, {0, 2, 3}, {4, 5, 8}, {4, 6, 7}, {0, maxNumber}} {
		last := numbers[len(numbers)-1]
		for most := len(numbers); most < len(numbers)+3; most++ {
			refused(t, fmt.Sprint(numbers), written(most, true, last, some(numbers...)...))
			back(t, written(most, false, last, some(numbers...)...), &model{most, false, some(numbers...)})
		}
	}
	// Of a window that isn't full nothing has gone yet.
	for _, numbers := range [][]int{{1}, {5}, {1, 2}, {5, 6, 7}, {maxNumber}, {maxNumber - 1, maxNumber}} {
		last := numbers[len(numbers)-1]
		back(t, written(len(numbers), true, last, some(numbers...)...), &model{len(numbers), true, some(numbers...)})
		for _, most := range []int{len(numbers) + 1, 64} {
			refused(t, fmt.Sprint(numbers), written(most, true, last, some(numbers...)...))
		}
	}
}

// parsed answers the model of bytes, if they are a window's.
func parsed(b []byte) (*model, bool) {
	fine := true
	raw := func() uint64 {
		n, size := binary.Uvarint(b)
		// The shortest form alone is one.
		if size <= 0 || !bytes.Equal(binary.AppendUvarint(nil, n), b[:size]) {
			fine, b = false, nil
			return 0
		}
		b = b[size:]
		return n
	}
	uint := func(most uint64) int {
		n := raw()
		if n > most {
			fine, b = false, nil
			return 0
		}
		return int(n)
	}
	text := func() string {
		n := uint(maxText)
		if n > len(b) {
			fine, b = false, nil
			return ""
		}
		var s string
		s, b = string(b[:n]), b[n:]
		return s
	}
	m := &model{most: uint(64), strict: uint(1) == 1}
	last := raw()
	for range uint(64) {
		k := kept{uint(maxNumber), text(), text()}
		fine = fine && k.number > m.last()
		if m.strict && k.number != m.last()+1 {
			// Only what is behind others that went may begin elsewhere.
			fine = fine && len(m.all) == 0 && m.most > 0
		}
		m.all = append(m.all, k)
	}
	fine = fine && len(b) == 0 && m.most > 0 && len(m.all) <= m.most
	if fine && len(m.all) == 0 {
		return m, last == 1
	}
	if fine && m.strict && len(m.all) < m.most && m.all[0].number != 0 {
		return m, false
	}
	return m, fine && last == 2*uint64(m.last())
}

// reads holds that bytes are read as the model of a reader says.
func reads(t *testing.T, b []byte) bool {
	t.Helper()
	m, fine := parsed(slices.Clone(b))
	if fine {
		back(t, b, m)
	} else {
		refused(t, "no window", b)
	}
	return fine
}

func TestP18_3_EachByteOfAWindow(t *testing.T) {
	long := []kept{{150, "abc", string(make([]byte, 130))}, {151, "", "x"}, {152, "defg", ""}}
	for _, b := range [][]byte{
		written(3, true, 2, some(0, 1, 2)...), written(4, true, 2, some(0, 1, 2)...), written(4, false, 200, some(0, 1, 200)...),
		written(3, true, 152, long...), written(5, false, 152, long...), written(1, true, -1), written(1, false, maxNumber, some(maxNumber)...),
	} {
		if !reads(t, b) {
			t.Fatalf("%x isn't a window", b)
		}
		for n := range b {
			refused(t, "cut short", b[:n])
			for c := range 256 {
				spoilt := slices.Clone(b)
				spoilt[n] = byte(c)
				reads(t, spoilt)
				reads(t, slices.Insert(slices.Clone(b), n, byte(c)))
			}
			reads(t, slices.Delete(slices.Clone(b), n, n+1))
		}
		for c := range 256 {
			refused(t, "one behind it", append(slices.Clone(b), byte(c)))
		}
	}
}

func TestP18_3_AllShortBytes(t *testing.T) {
	fine := 0
	for _, first := range []byte{0, 1, 2, 64, 65, 128} {
		for n := range 1 << 16 {
			for _, count := range []byte{0, 1} {
				if reads(t, []byte{first, byte(n), byte(n >> 8), count}) {
					fine++
				}
			}
		}
	}
	// Each of three mosts, strict or not, and nothing is kept.
	if fine != 6 {
		t.Error(fine)
	}
}

func TestP18_4_WhatIsHandedInIsNotKeptOrChanged(t *testing.T) {
	w, m := made(t, 2, true)
	request, answer := append(make([]byte, 0, 9), "r0"...), append(make([]byte, 0, 9), "a0"...)
	w.Keep(0, request, answer)
	m.keep(0, "r0", "a0")
	w.Look(0, request)
	if string(request[:9]) != "r0\x00\x00\x00\x00\x00\x00\x00" || string(answer[:9]) != "a0\x00\x00\x00\x00\x00\x00\x00" {
		t.Error("an argument has changed")
	}
	clear(request)
	clear(answer)
	agree(t, "what was handed in is changed", w, m)
	b, _ := w.Write()
	before := slices.Clone(b)
	again, _ := window.Read(b)
	if !bytes.Equal(b, before) {
		t.Error("Read has changed its argument")
	}
	clear(b)
	agree(t, "Read, and what was handed in is changed", again, m)
}

func TestP18_4_AnswersAreNewMemory(t *testing.T) {
	w, m := made(t, 2, true, 0, 1)
	for range 2 {
		a, _ := w.Look(1, []byte("r1"))
		again, _ := w.Look(1, []byte("r1"))
		clear(a[:cap(a)])
		if string(again) != "a1" {
			t.Error("two answers share memory")
		}
		b, _ := w.Write()
		clear(b[:cap(b)])
		agree(t, "behind changed answers", w, m)
	}
	a, _ := w.Look(0, []byte("r0"))
	keeps(t, w, m, 2, "r2", "a2")
	keeps(t, w, m, 3, "r3", "a3")
	if string(a) != "a0" {
		t.Error("an answer has changed")
	}
}
