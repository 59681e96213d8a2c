package codec_test

import (
	"bytes"
	"math"
	"math/rand"
	"strings"
	"testing"

	"purser/api"
	"purser/codec"
)

// ff answers so many groups of seven ones that aren't the last, and what is behind them.
func ff(n int, behind string) string { return strings.Repeat("\xFF", n) + behind }

// zero answers so many groups of nought that aren't the last, and what is behind them.
func zero(n int, behind string) string { return strings.Repeat("\x80", n) + behind }

var counts = []struct {
	n     int
	bytes string
}{
	{0, "\x00"}, {1, "\x01"}, {127, "\x7F"}, {128, "\x80\x01"}, {300, "\xAC\x02"}, {1<<14 - 1, "\xFF\x7F"}, {1 << 14, "\x80\x80\x01"},
	{1<<56 - 1, ff(7, "\x7F")}, {1 << 56, zero(8, "\x01")}, {1 << 62, zero(8, "\x40")}, {math.MaxInt - 1, "\xFE" + ff(7, "\x7F")}, {math.MaxInt, ff(8, "\x7F")},
}

var numbers = []struct {
	n     int
	bytes string
}{
	{0, "\x00"}, {-1, "\x01"}, {1, "\x02"}, {-2, "\x03"}, {2, "\x04"}, {63, "\x7E"}, {-64, "\x7F"}, {64, "\x80\x01"}, {-65, "\x81\x01"},
	{1<<62 - 1, "\xFE" + ff(7, "\x7F")}, {-1 << 62, ff(8, "\x7F")}, {1 << 62, zero(9, "\x01")}, {-1<<62 - 1, "\x81" + zero(8, "\x01")},
	{math.MaxInt - 1, "\xFC" + ff(8, "\x01")}, {math.MaxInt, "\xFE" + ff(8, "\x01")}, {math.MinInt + 1, "\xFD" + ff(8, "\x01")}, {math.MinInt, ff(9, "\x01")},
}

func TestP3_1_WrittenForms(t *testing.T) {
	for _, c := range counts {
		w := &codec.Writer{}
		w.Uint(c.n)
		if b, err := w.Bytes(); string(b) != c.bytes || err != api.OK {
			t.Errorf("Uint(%d): %X, %d, not %X", c.n, b, err, c.bytes)
		}
	}
	for _, c := range numbers {
		w := &codec.Writer{}
		w.Int(c.n)
		if b, err := w.Bytes(); string(b) != c.bytes || err != api.OK {
			t.Errorf("Int(%d): %X, %d, not %X", c.n, b, err, c.bytes)
		}
	}
	w := &codec.Writer{}
	w.Flag(true)
	w.Flag(false)
	w.Text([]byte("ab"))
	w.Text(nil)
	w.Text([]byte{})
	if b, err := w.Bytes(); string(b) != "\x01\x00\x02ab\x00\x00" || err != api.OK {
		t.Errorf("flags and texts: %X, %d", b, err)
	}
	long := &codec.Writer{}
	long.Text(make([]byte, 300))
	if b, err := long.Bytes(); string(b) != "\xAC\x02"+strings.Repeat("\x00", 300) || err != api.OK {
		t.Errorf("a text of 300 bytes: %X, %d", b, err)
	}
}

func TestP3_1_WriterBelowNought(t *testing.T) {
	var w codec.Writer
	if b, err := w.Bytes(); len(b) != 0 || err != api.OK {
		t.Errorf("a writer's zero value: %X, %d", b, err)
	}
	for _, n := range []int{-1, math.MinInt} {
		w := &codec.Writer{}
		w.Uint(7)
		w.Uint(n)
		if b, err := w.Bytes(); string(b) != "\x07" || err != api.ErrArg {
			t.Errorf("Uint(%d): %X, %d", n, b, err)
		}
		w.Uint(8)
		w.Int(-1)
		w.Flag(true)
		w.Text([]byte("c"))
		if b, err := w.Bytes(); string(b) != "\x07\x08\x01\x01\x01c" || err != api.ErrArg {
			t.Errorf("behind Uint(%d): %X, %d", n, b, err)
		}
	}
}

func TestP3_1_NilWriterAndReader(t *testing.T) {
	var w *codec.Writer
	w.Uint(1)
	w.Uint(-1)
	w.Int(1)
	w.Flag(true)
	w.Text([]byte("ab"))
	if b, err := w.Bytes(); len(b) != 0 || err != api.ErrArg {
		t.Errorf("a nil writer: %X, %d", b, err)
	}
	var r *codec.Reader
	if r.Uint(9) != 0 || r.Int() != 0 || r.Flag() || len(r.Text(9)) != 0 || r.Left() != 0 || r.End() != api.ErrArg {
		t.Error("a nil reader")
	}
	var none codec.Reader
	if none.Left() != 0 || none.End() != api.OK || none.Uint(9) != 0 || none.End() != api.ErrShort {
		t.Error("a reader's zero value")
	}
}

// The ways in which a part is asked for.
var uint9 = ask{"Uint(9)", func(r *codec.Reader) bool { return r.Uint(9) == 0 }}
var uint100 = ask{"Uint(100)", func(r *codec.Reader) bool { return r.Uint(100) == 0 }}
var uintAll = ask{"Uint(MaxInt)", func(r *codec.Reader) bool { return r.Uint(math.MaxInt) == 0 }}
var uintBelow = ask{"Uint(-1)", func(r *codec.Reader) bool { return r.Uint(-1) == 0 }}
var anInt = ask{"Int()", func(r *codec.Reader) bool { return r.Int() == 0 }}
var aFlag = ask{"Flag()", func(r *codec.Reader) bool { return !r.Flag() }}
var text0 = ask{"Text(0)", func(r *codec.Reader) bool { return len(r.Text(0)) == 0 }}
var text2 = ask{"Text(2)", func(r *codec.Reader) bool { return len(r.Text(2)) == 0 }}
var textAll = ask{"Text(MaxInt)", func(r *codec.Reader) bool { return len(r.Text(math.MaxInt)) == 0 }}
var textBelow = ask{"Text(-1)", func(r *codec.Reader) bool { return len(r.Text(-1)) == 0 }}

// ask is a call of a reader, that says whether the answer was nothing.
type ask struct {
	name    string
	nothing func(r *codec.Reader) bool
}

var refusals = []struct {
	ask  ask
	in   string
	want api.Errno
}{
	{uintAll, "", api.ErrShort},
	{uintAll, "\x80", api.ErrShort},
	{uintAll, "\xFF\xFF", api.ErrShort},
	{uintAll, ff(8, ""), api.ErrShort},
	{uint9, "\xFF", api.ErrShort}, // the count isn't known yet, so it isn't too great
	{uintAll, "\x80\x00", api.ErrForm},
	{uintAll, "\xFF\x00", api.ErrForm},
	{uintAll, "\x81\x80\x00", api.ErrForm},
	{uintAll, zero(8, "\x00"), api.ErrForm},
	{uint9, "\xFF\x00", api.ErrForm}, // its form is asked for ahead of its size
	{uintAll, ff(9, ""), api.ErrShort},
	{uintAll, zero(9, ""), api.ErrShort},
	{uintAll, ff(9, "\x01"), api.ErrForm},
	{uintAll, ff(9, "\x00"), api.ErrForm},
	{uintAll, zero(9, "\x01"), api.ErrForm},
	{uintAll, ff(10, ""), api.ErrForm},
	{uintAll, ff(30, ""), api.ErrForm},
	{uint9, ff(9, "\x01"), api.ErrForm},
	{uint9, "\x0A", api.ErrBig},
	{uint9, "\x8A\x01", api.ErrBig},
	{uint100, "\x65", api.ErrBig},
	{uint100, ff(8, "\x7F"), api.ErrBig},
	{uintBelow, "\x00", api.ErrBig},
	{uintBelow, "\x05", api.ErrBig},
	{uintBelow, "", api.ErrShort},
	{uintBelow, "\x80\x00", api.ErrForm},
	{anInt, "", api.ErrShort},
	{anInt, "\x80", api.ErrShort},
	{anInt, ff(9, ""), api.ErrShort},
	{anInt, zero(10, ""), api.ErrShort},
	{anInt, zero(9, "\x81"), api.ErrShort},
	{anInt, "\x80\x00", api.ErrForm},
	{anInt, ff(9, "\x00"), api.ErrForm},
	{anInt, ff(9, "\x02"), api.ErrForm},
	{anInt, ff(9, "\x7F"), api.ErrForm},
	{anInt, zero(9, "\x02"), api.ErrForm},
	{anInt, zero(9, "\x82"), api.ErrForm},
	{anInt, ff(10, ""), api.ErrForm},
	{anInt, zero(10, "\x01"), api.ErrForm},
	{anInt, zero(10, "\x00"), api.ErrForm},
	{anInt, zero(9, "\x81\x01"), api.ErrForm},
	{anInt, ff(30, ""), api.ErrForm},
	{aFlag, "", api.ErrShort},
	{aFlag, "\x02", api.ErrForm},
	{aFlag, "\x80", api.ErrForm},
	{aFlag, "\x81\x00", api.ErrForm},
	{aFlag, "\xFF", api.ErrForm},
	{text2, "", api.ErrShort},
	{text2, "\x80", api.ErrShort},
	{text2, "\x82\x00ab", api.ErrForm},
	{text2, ff(9, "\x01ab"), api.ErrForm},
	{text2, "\x03abc", api.ErrBig},
	{text2, "\x03", api.ErrBig}, // too long, and too short: its count comes ahead
	{text2, "\x02a", api.ErrShort},
	{text2, "\x01", api.ErrShort},
	{text0, "\x01a", api.ErrBig},
	{textAll, "\x05abcd", api.ErrShort},
	{textAll, ff(8, "\x7Fab"), api.ErrShort},
	{textBelow, "\x00", api.ErrBig},
}

func TestP3_1_Refusals(t *testing.T) {
	for _, c := range refusals {
		r := codec.Read([]byte(c.in))
		if !c.ask.nothing(r) {
			t.Errorf("%s of %X answered something", c.ask.name, c.in)
		}
		if got := r.End(); got != c.want {
			t.Errorf("%s of %X: error %d, not %d", c.ask.name, c.in, got, c.want)
		}
		if got := r.Left(); got != len(c.in) {
			t.Errorf("%s of %X took bytes: %d are left", c.ask.name, c.in, got)
		}
	}
}

func TestP3_1_RefusalsBehindParts(t *testing.T) {
	for _, c := range refusals {
		r := codec.Read([]byte("\x05\x01" + c.in))
		if r.Uint(5) != 5 || !r.Flag() || !c.ask.nothing(r) {
			t.Errorf("%s of %X behind parts: wrong answers", c.ask.name, c.in)
		}
		if r.End() != c.want || r.Left() != len(c.in) {
			t.Errorf("%s of %X behind parts: error %d, %d left", c.ask.name, c.in, r.End(), r.Left())
		}
	}
}

// Behind an error nothing is answered or taken, though there would be parts, and the error stays the first one.
func TestP3_1_BehindAnError(t *testing.T) {
	for _, c := range []struct {
		in   string
		fail ask
		want api.Errno
	}{
		{"\x02\x01\x01\x01", aFlag, api.ErrForm},
		{"\x0A\x01\x01\x01", uint9, api.ErrBig},
		{"\x05\x01\x01\x01", textAll, api.ErrShort},
		{"\x05\x01\x01\x01", text2, api.ErrBig},
	} {
		r := codec.Read([]byte(c.in))
		c.fail.nothing(r)
		if r.Uint(100) != 0 || r.Int() != 0 || r.Flag() || len(r.Text(100)) != 0 {
			t.Errorf("behind %s of %X something was answered", c.fail.name, c.in)
		}
		r.Uint(-1)
		r.Text(-1)
		if r.End() != c.want || r.Left() != len(c.in) {
			t.Errorf("behind %s of %X: error %d, %d left", c.fail.name, c.in, r.End(), r.Left())
		}
	}
}

func TestP3_1_EndAndLeft(t *testing.T) {
	r := codec.Read([]byte("\x01\x02"))
	if r.Left() != 2 || r.End() != api.ErrTail {
		t.Error("two bytes are left", r.Left(), r.End())
	}
	if r.Uint(1) != 1 || r.Left() != 1 || r.End() != api.ErrTail {
		t.Error("one byte is left", r.Left(), r.End())
	}
	if r.Int() != 1 || r.Left() != 0 || r.End() != api.OK {
		t.Error("nothing is left", r.Left(), r.End())
	}
	for _, b := range [][]byte{nil, {}} {
		if r := codec.Read(b); r.Left() != 0 || r.End() != api.OK {
			t.Error("of nothing", r.Left(), r.End())
		}
	}
}

func TestP3_1_Bounds(t *testing.T) {
	for _, c := range counts {
		r := codec.Read([]byte(c.bytes))
		if got := r.Uint(c.n); got != c.n || r.End() != api.OK {
			t.Errorf("Uint(%d) of %X: %d, %d", c.n, c.bytes, got, r.End())
		}
		r = codec.Read([]byte(c.bytes))
		if got := r.Uint(c.n - 1); got != 0 || r.End() != api.ErrBig {
			t.Errorf("Uint(%d) of %X: %d, %d", c.n-1, c.bytes, got, r.End())
		}
	}
	r := codec.Read([]byte("\x02ab\x00\x01\x00"))
	if string(r.Text(2)) != "ab" || len(r.Text(0)) != 0 || !r.Flag() || r.Flag() || r.End() != api.OK {
		t.Error("texts and flags", r.End())
	}
}

// part is one of a script: what was written.
type part struct {
	kind, n int
	flag    bool
	text    []byte
}

func someParts(r *rand.Rand) []part {
	l := make([]part, r.Intn(12))
	for i := range l {
		l[i] = part{kind: r.Intn(4), n: int(r.Uint64()) >> r.Intn(64), flag: r.Intn(2) == 1, text: make([]byte, r.Intn(200))}
		if l[i].kind == 0 && l[i].n < 0 {
			l[i].n = -(l[i].n + 1)
		}
		r.Read(l[i].text)
	}
	return l
}

func write(l []part) []byte {
	w := &codec.Writer{}
	for _, p := range l {
		switch p.kind {
		case 0:
			w.Uint(p.n)
		case 1:
			w.Int(p.n)
		case 2:
			w.Flag(p.flag)
		default:
			w.Text(p.text)
		}
	}
	b, _ := w.Bytes()
	return b
}

// readAs says whether the bytes begin with that part, read in its tightest bounds.
func readAs(r *codec.Reader, p part) bool {
	switch p.kind {
	case 0:
		return r.Uint(p.n) == p.n
	case 1:
		return r.Int() == p.n
	case 2:
		return r.Flag() == p.flag
	}
	return bytes.Equal(r.Text(len(p.text)), p.text)
}

func TestP3_2_WrittenIsReadAgain(t *testing.T) {
	random := rand.New(rand.NewSource(1))
	for range 3000 {
		l := someParts(random)
		b := write(l)
		r := codec.Read(b)
		for i, p := range l {
			if !readAs(r, p) {
				t.Fatalf("part %d of %v: not read again of %X", i, l, b)
			}
		}
		if r.End() != api.OK || r.Left() != 0 {
			t.Fatalf("%v: error %d, %d left", l, r.End(), r.Left())
		}
		if r := codec.Read(append(b, 0)); len(l) > 0 {
			for _, p := range l {
				readAs(r, p)
			}
			if r.End() != api.ErrTail || r.Left() != 1 {
				t.Fatalf("%v and a byte: error %d, %d left", l, r.End(), r.Left())
			}
		}
	}
	for _, c := range numbers {
		if r := codec.Read([]byte(c.bytes)); r.Int() != c.n || r.End() != api.OK {
			t.Errorf("Int of %X isn't %d", c.bytes, c.n)
		}
	}
}

// What is cut off ends too soon, wherever it is cut.
func TestP3_2_CutOff(t *testing.T) {
	for _, c := range counts {
		for i := range len(c.bytes) {
			if r := codec.Read([]byte(c.bytes[:i])); r.Uint(math.MaxInt) != 0 || r.End() != api.ErrShort {
				t.Errorf("Uint of %X: %d", c.bytes[:i], r.End())
			}
		}
	}
	for _, c := range numbers {
		for i := range len(c.bytes) {
			if r := codec.Read([]byte(c.bytes[:i])); r.Int() != 0 || r.End() != api.ErrShort {
				t.Errorf("Int of %X: %d", c.bytes[:i], r.End())
			}
		}
	}
}

// again writes what was read of the bytes as each kind; the bytes that were taken must be these.
func again(t *testing.T, b []byte) {
	t.Helper()
	for kind := range 4 {
		r := codec.Read(b)
		p := part{kind: kind}
		switch kind {
		case 0:
			p.n = r.Uint(math.MaxInt)
		case 1:
			p.n = r.Int()
		case 2:
			p.flag = r.Flag()
		default:
			p.text = r.Text(math.MaxInt)
		}
		if err := r.End(); err != api.OK && err != api.ErrTail {
			continue
		}
		if back := write([]part{p}); !bytes.Equal(back, b[:len(b)-r.Left()]) {
			t.Fatalf("kind %d: %X is read as %v, that is written as %X", kind, b, p, back)
		}
	}
}

func TestP3_2_OneWayAlone(t *testing.T) {
	for a := range 256 {
		again(t, []byte{byte(a)})
		for b := range 256 {
			again(t, []byte{byte(a), byte(b)})
			again(t, []byte{0x80, byte(a), byte(b)})
			again(t, append(bytes.Repeat([]byte{0xFF}, 7), byte(a), byte(b)))
			again(t, append(bytes.Repeat([]byte{0xFF}, 8), byte(a), byte(b)))
			again(t, append(bytes.Repeat([]byte{0x80}, 9), byte(a), byte(b)))
		}
	}
	r := rand.New(rand.NewSource(3))
	groups := []byte{0x00, 0x01, 0x02, 0x7F, 0x80, 0x81, 0x82, 0xFF}
	for range 50000 {
		b := make([]byte, r.Intn(13))
		for i := range b {
			b[i] = groups[r.Intn(len(groups))] | byte(r.Intn(4)/3*0x80)
		}
		again(t, b)
	}
}

func TestP3_3_WriterKeepsNothing(t *testing.T) {
	room := []byte("abcdef")
	w := &codec.Writer{}
	w.Text(room[:2])
	first, _ := w.Bytes()
	room[0] = 'x'
	if got, _ := w.Bytes(); string(got) != "\x02ab" {
		t.Errorf("a text was kept: %X", got)
	}
	clear(first)
	if got, _ := w.Bytes(); string(got) != "\x02ab" {
		t.Errorf("an answer shares the writer's memory: %X", got)
	}
	second, _ := w.Bytes()
	third, _ := w.Bytes()
	_ = append(second, 9)
	w.Uint(5)
	if got, _ := w.Bytes(); string(got) != "\x02ab\x05" || string(second) != "\x02ab" || string(third) != "\x02ab" {
		t.Errorf("an answer shares the writer's memory: %X, %X, %X", got, second, third)
	}
	_ = append(third, 9, 9, 9)
	if got, _ := w.Bytes(); string(got) != "\x02ab\x05" || string(room) != "xbcdef" {
		t.Errorf("memory is shared: %X, %X", got, room)
	}
}

func TestP3_3_ReaderKeepsNothing(t *testing.T) {
	room := []byte("\x02ab\x01c\x07zz")
	r := codec.Read(room[:6])
	room[1], room[5] = 'x', 9
	ab := r.Text(2)
	if string(ab) != "ab" {
		t.Errorf("the bytes were kept: %q", ab)
	}
	_ = append(ab, 0xFF, 0xFF, 0xFF)
	c := r.Text(1)
	if string(c) != "c" {
		t.Errorf("an answer shares the reader's memory: %q", c)
	}
	clear(ab)
	clear(c)
	if r.Uint(7) != 7 || r.End() != api.OK {
		t.Errorf("the reader was changed by its answers: %d", r.End())
	}
	if string(room) != "\x02xb\x01c\x09zz" {
		t.Errorf("the bytes were changed: %X", room)
	}
	again := codec.Read(room[:3])
	text := again.Text(2)
	text[0] = 'y'
	if room[1] != 'x' {
		t.Error("an answer shares the argument's memory")
	}
}
