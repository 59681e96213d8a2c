package frame_test

import (
	"bytes"
	"encoding/binary"
	"hash/crc32"
	"math"
	"math/rand"
	"slices"
	"testing"

	"purser/api"
	"purser/disk"
	"purser/frame"
)

// body answers the bytes of a group: its records, each behind the count of its bytes.
func body(group [][]byte) []byte {
	var b []byte
	for _, r := range group {
		b = binary.AppendUvarint(b, uint64(len(r)))
		b = append(b, r...)
	}
	return b
}

// laid answers the sectors of a group whose bytes are b, put together from their places.
func laid(gen, number int, b []byte) []byte {
	head := make([]byte, 64)
	head[0] = 1
	binary.BigEndian.PutUint64(head[1:], uint64(gen))
	binary.BigEndian.PutUint64(head[9:], uint64(number))
	binary.BigEndian.PutUint32(head[17:], uint32(len(b)))
	sum := crc32.NewIEEE()
	sum.Write(head[1:21])
	sum.Write(b)
	binary.BigEndian.PutUint32(head[21:], sum.Sum32())
	all := head
	b = b[copy(head[25:], b):]
	for len(b) > 0 {
		next := make([]byte, 64)
		next[0] = 2
		b = b[copy(next[1:], b):]
		all = append(all, next...)
	}
	return all
}

// text answers n bytes, that begin with c and go on rising.
func text(c byte, n int) []byte {
	b := make([]byte, n)
	for i := range b {
		b[i] = c + byte(i)
	}
	return b
}

// group answers a group of records of so many bytes.
func group(c byte, sizes ...int) [][]byte {
	g := [][]byte{}
	for i, n := range sizes {
		g = append(g, text(c+byte(i), n))
	}
	return g
}

func made(t *testing.T, sectors int) *disk.Disk {
	t.Helper()
	d, err := disk.New(sectors)
	if err != api.OK {
		t.Fatalf("disk.New(%d): %d", sectors, err)
	}
	return d
}

// stands answers a disk on which these bytes last from the sector first on.
func stands(t *testing.T, sectors, first int, b []byte) *disk.Disk {
	t.Helper()
	d := made(t, sectors)
	if err := d.Write(first, b); err != api.OK {
		t.Fatalf("Write: %d", err)
	}
	d.Sync()
	return d
}

// opened answers the log that stands there.
func opened(t *testing.T, d *disk.Disk, first, size, gen int) (*frame.Log, [][]byte) {
	t.Helper()
	l, all, err := frame.Open(d, first, size, gen)
	if err != api.OK || l == nil {
		t.Fatalf("Open(%d, %d, %d): %d", first, size, gen, err)
	}
	return l, all
}

// tells opens a log, and holds what it tells against groups and records.
func tells(t *testing.T, what string, d *disk.Disk, first, size, gen int, groups ...[][]byte) *frame.Log {
	t.Helper()
	l, all := opened(t, d, first, size, gen)
	var want [][]byte
	used := 0
	for _, g := range groups {
		want = append(want, g...)
		used += len(laid(0, 0, body(g))) / 64
	}
	if !same(all, want) || l.Groups() != len(groups) || l.Left() != size-used || l.Gen() != gen {
		t.Fatalf("%s: %d records of %d, %d groups of %d, %d sectors left of %d, generation %d", what, len(all), len(want), l.Groups(), len(groups), l.Left(), size-used, l.Gen())
	}
	return l
}

func same(a, b [][]byte) bool { return slices.EqualFunc(a, b, bytes.Equal) }

// dump answers all the disk's bytes.
func dump(t *testing.T, d *disk.Disk) []byte {
	t.Helper()
	b, err := d.Read(0, d.Size())
	if err != api.OK {
		t.Fatalf("Read: %d", err)
	}
	return b
}

func TestP5_1_Sectors(t *testing.T) {
	cases := []struct {
		group [][]byte
		want  int
	}{
		{nil, 1}, {[][]byte{}, 1}, {[][]byte{nil}, 1}, {[][]byte{{}}, 1}, {group(0, 1), 1}, {group(0, 38), 1}, {group(0, 39), 2},
		{group(0, 101), 2}, {group(0, 102), 3}, {group(0, 163), 3}, {group(0, 164), 4}, {group(0, 0, 37), 1}, {group(0, 0, 38), 2},
		{group(0, 18, 19), 1}, {group(0, 19, 19), 2}, {group(0, 126, 0), 3}, {group(0, 127), 3}, {group(0, 128), 3},
		{group(0, 127, 36), 3}, {group(0, 127, 37), 4}, {group(0, 128, 34), 3}, {group(0, 128, 35), 4}, {make([][]byte, 39), 1}, {make([][]byte, 40), 2},
		{make([][]byte, 102), 2}, {make([][]byte, 103), 3}, {group(0, 1<<16+1), 1041}, {group(0, 1<<20), 16645},
	}
	for _, c := range cases {
		if got := frame.Sectors(c.group); got != c.want {
			t.Errorf("Sectors of %d bytes in %d records: %d, not %d", len(body(c.group)), len(c.group), got, c.want)
		}
	}
	for n := range 1000 {
		g := group(3, n)
		if got, want := frame.Sectors(g), len(laid(0, 0, body(g)))/64; got != want {
			t.Errorf("Sectors of a record of %d bytes: %d, not %d", n, got, want)
		}
	}
}

func TestP5_1_OpenPlaces(t *testing.T) {
	d := made(t, 8)
	bad := [][3]int{
		{-1, 1, 0}, {0, 0, 0}, {0, -1, 0}, {0, 9, 0}, {8, 1, 0}, {7, 2, 0}, {9, 1, 0}, {9, -1, 0}, {0, 8, -1}, {0, 8, math.MinInt}, {1, 8, 0}, {8, 0, 0}, {4, 0, 0},
		{math.MaxInt, 1, 0}, {1, math.MaxInt, 0}, {math.MaxInt, math.MaxInt, 0}, {math.MinInt, 1, 0}, {0, math.MinInt, 0}, {math.MinInt, math.MinInt, 0}, {math.MinInt, math.MaxInt, 0},
	}
	for _, off := range []bool{false, true} {
		for _, c := range bad {
			if l, all, err := frame.Open(d, c[0], c[1], c[2]); l != nil || all != nil || err != api.ErrArg {
				t.Errorf("Open(%v), off %v: %v, %d records, %d", c, off, l != nil, len(all), err)
			}
		}
		if l, all, err := frame.Open(nil, 0, 1, 0); l != nil || all != nil || err != api.ErrArg {
			t.Errorf("Open of no disk: %v, %d, %d", l != nil, len(all), err)
		}
		d.Cut(1)
		d.Write(0, make([]byte, 64))
	}
	if l, all, err := frame.Open(d, 0, 8, 0); l != nil || all != nil || err != api.ErrDown {
		t.Errorf("Open without power: %v, %d, %d", l != nil, len(all), err)
	}
	d.Crash(nil)
	for _, c := range [][3]int{{0, 8, 0}, {7, 1, 0}, {0, 1, math.MaxInt}, {3, 5, 1}} {
		tells(t, "an empty log", d, c[0], c[1], c[2])
	}
	if _, _, err := frame.Open(&disk.Disk{}, 0, 1, 0); err != api.ErrArg {
		t.Errorf("Open of a disk of no sectors: %d", err)
	}
}

func TestP5_1_OneSectorAndMaxSectors(t *testing.T) {
	d := made(t, 1)
	l, _ := opened(t, d, 0, 1, 0)
	if err := l.Append(group(1, 38)); err != api.OK || l.Left() != 0 || l.Groups() != 1 {
		t.Errorf("a sector: %d, %d left, %d groups", err, l.Left(), l.Groups())
	}
	if err := l.Append(group(1, 0)); err != api.ErrDisk {
		t.Errorf("no sector left: %d", err)
	}
	tells(t, "a sector", d, 0, 1, 0, group(1, 38))

	d = made(t, 8192)
	l, _ = opened(t, d, 0, 8192, 7)
	most := 39 + 63*8191 - 3 // the count of the record's bytes has three bytes
	if err := l.Append(group(1, most+1)); err != api.ErrDisk || len(d.Dirty()) != 0 {
		t.Errorf("a byte too much: %d", err)
	}
	if err := l.Append(group(1, most)); err != api.OK || l.Left() != 0 {
		t.Errorf("all sectors: %d, %d left", err, l.Left())
	}
	tells(t, "all sectors", d, 0, 8192, 7, group(1, most))
}

func TestP5_1_BytesOnTheDisk(t *testing.T) {
	for _, sizes := range [][]int{{0}, {1}, {38}, {39}, {40}, {100}, {101}, {102}, {163}, {164}, {0, 0, 0}, {5, 300, 0, 41}, {37, 0}, {37, 1}} {
		first, gen := 3, 0x0102030405060708
		d := stands(t, 40, 0, bytes.Repeat([]byte{0xEE}, 40*64))
		want := dump(t, d)
		l, _ := opened(t, d, first, 30, gen)
		at := first * 64
		for number := range 3 {
			g := group(byte(number), sizes...)
			if err := l.Append(g); err != api.OK {
				t.Fatalf("%v: Append: %d", sizes, err)
			}
			at += copy(want[at:], laid(gen, number, body(g)))
			if got := dump(t, d); !bytes.Equal(got, want) {
				t.Fatalf("%v: the disk isn't as the chapter says behind group %d", sizes, number)
			}
			if len(d.Dirty()) != 0 || l.Groups() != number+1 || l.Left() != 30-(at/64-first) {
				t.Fatalf("%v: dirty %v, %d groups, %d left", sizes, d.Dirty(), l.Groups(), l.Left())
			}
		}
		tells(t, "written", d, first, 30, gen, group(0, sizes...), group(1, sizes...), group(2, sizes...))
	}
}

func TestP5_1_WhatIsWrittenFirst(t *testing.T) {
	g := group(9, 150) // three sectors
	for cut, dirty := range map[int][]int{1: {3}, 2: {3, 4}, 3: {2}} {
		d := made(t, 8)
		l, _ := opened(t, d, 1, 7, 0)
		l.Append(group(1, 1))
		d.Cut(cut)
		if err := l.Append(g); err != api.ErrDown || !slices.Equal(d.Dirty(), dirty) {
			t.Errorf("Cut(%d): %d, dirty %v, not %v", cut, err, d.Dirty(), dirty)
		}
	}
	d := made(t, 8)
	l, _ := opened(t, d, 1, 7, 0)
	d.Cut(4)
	if err := l.Append(g); err != api.OK || d.Off() {
		t.Errorf("three sectors: %d", err)
	}
	if err := d.Write(0, make([]byte, 64)); err != api.ErrDown {
		t.Errorf("more than three sectors were counted, or fewer: %d", err)
	}
	d = made(t, 8)
	l, _ = opened(t, d, 1, 7, 0)
	d.Cut(1)
	if err := l.Append(group(1, 38)); err != api.ErrDown || !slices.Equal(d.Dirty(), []int{1}) {
		t.Errorf("one sector: %d, dirty %v", err, d.Dirty())
	}
	// Of one sector there is one Sync alone: what else is in the cache doesn't last by another one.
	d = made(t, 8)
	l, _ = opened(t, d, 1, 7, 0)
	d.Write(0, make([]byte, 64))
	d.Cut(1)
	if err := l.Append(group(1, 38)); err != api.ErrDown || !slices.Equal(d.Dirty(), []int{0, 1}) {
		t.Errorf("one sector, another in the cache: %d, dirty %v", err, d.Dirty())
	}
}

func TestP5_1_FullLog(t *testing.T) {
	d := stands(t, 12, 0, bytes.Repeat([]byte{7}, 12*64))
	l, _ := opened(t, d, 2, 6, 3)
	l.Append(group(1, 102)) // three sectors
	was := dump(t, d)
	d.Cut(1)
	if err := l.Append(group(2, 165)); err != api.ErrDisk || !bytes.Equal(dump(t, d), was) || l.Groups() != 1 || l.Left() != 3 || d.Off() {
		t.Fatalf("four sectors of three: %d, %d groups, %d left", err, l.Groups(), l.Left())
	}
	d.Cut(0)
	if err := l.Append(group(2, 163)); err != api.OK || l.Groups() != 2 || l.Left() != 0 {
		t.Fatalf("three sectors of three: %d, %d groups, %d left", err, l.Groups(), l.Left())
	}
	was = dump(t, d)
	for _, g := range [][][]byte{group(1, 0), group(1, 1), group(1, 1000000)} {
		if err := l.Append(g); err != api.ErrDisk || l.Groups() != 2 || l.Left() != 0 {
			t.Errorf("a full log: %d, %d groups, %d left", err, l.Groups(), l.Left())
		}
	}
	if err := l.Append(nil); err != api.OK {
		t.Errorf("no records in a full log: %d", err)
	}
	if !bytes.Equal(dump(t, d), was) || was[8*64] != 7 || was[2*64-1] != 7 {
		t.Error("sectors beyond the log changed")
	}
	tells(t, "a full log", d, 2, 6, 3, group(1, 102), group(2, 163))
	// The same sectors, of which fewer are the log's: the second group isn't within.
	tells(t, "a shorter log", d, 2, 5, 3, group(1, 102))
	tells(t, "a log of two sectors", d, 2, 2, 3)
}

func TestP5_1_GroupOfNoRecords(t *testing.T) {
	d := made(t, 4)
	l, _ := opened(t, d, 0, 4, 1)
	l.Append(group(1, 1))
	was := dump(t, d)
	d.Cut(1)
	for _, g := range [][][]byte{nil, {}} {
		if err := l.Append(g); err != api.OK || l.Groups() != 1 || l.Left() != 3 || d.Off() || !bytes.Equal(dump(t, d), was) {
			t.Errorf("no records: %d, %d groups, %d left", err, l.Groups(), l.Left())
		}
	}
	d.Write(3, make([]byte, 64))
	if err := l.Append(nil); err != api.OK {
		t.Errorf("no records, no power: %d", err)
	}
}

func TestP5_1_LogIsOfNoUseBehindErrDown(t *testing.T) {
	for cut := 1; cut <= 3; cut++ {
		d := made(t, 10)
		l, _ := opened(t, d, 0, 10, 1)
		l.Append(group(1, 1))
		d.Cut(cut)
		for range 2 {
			if err := l.Append(group(2, 150)); err != api.ErrDown || l.Groups() != 1 || l.Left() != 9 || l.Gen() != 1 {
				t.Errorf("Cut(%d): %d, %d groups, %d left", cut, err, l.Groups(), l.Left())
			}
		}
		d.Crash([]bool{true, true})
		was := dump(t, d)
		if err := l.Append(group(3, 1)); err != api.ErrDown || !bytes.Equal(dump(t, d), was) || l.Groups() != 1 || l.Left() != 9 {
			t.Errorf("Cut(%d), behind the Crash: %d, %d groups, %d left", cut, err, l.Groups(), l.Left())
		}
		if err := l.Append(group(3, 1000)); err != api.ErrDisk {
			t.Errorf("Cut(%d), too few sectors: %d", cut, err)
		}
	}
	d := made(t, 2)
	l, _ := opened(t, d, 0, 2, 1)
	d.Cut(1)
	d.Write(1, make([]byte, 64))
	if err := l.Append(group(1, 200)); err != api.ErrDisk {
		t.Errorf("too few sectors, and no power: %d", err)
	}
	if err := l.Append(group(1, 1)); err != api.ErrDown {
		t.Errorf("no power: %d", err)
	}
}

func TestP5_1_CrashBetweenAppends(t *testing.T) {
	d := made(t, 10)
	l, _ := opened(t, d, 0, 10, 1)
	l.Append(group(1, 50))
	d.Write(9, bytes.Repeat([]byte{1}, 64))
	d.Crash(nil)
	if err := l.Append(group(2, 50)); err != api.OK || l.Groups() != 2 {
		t.Errorf("Append: %d", err)
	}
	tells(t, "both", d, 0, 10, 1, group(1, 50), group(2, 50))
}

func TestP5_1_OpenWritesNothing(t *testing.T) {
	d := stands(t, 10, 2, laid(5, 0, body(group(1, 100))))
	was := dump(t, d)
	d.Write(9, bytes.Repeat([]byte{4}, 64))
	d.Cut(1)
	for gen := range 8 {
		opened(t, d, 2, 8, gen)
	}
	if d.Off() || !slices.Equal(d.Dirty(), []int{9}) {
		t.Errorf("off %v, dirty %v", d.Off(), d.Dirty())
	}
	d.Crash(nil)
	if !bytes.Equal(dump(t, d), was) {
		t.Error("Open wrote, or let last")
	}
}

func TestP5_1_OpenReadsWhatWasWrittenLast(t *testing.T) {
	d := made(t, 4)
	d.Write(1, laid(5, 0, body(group(1, 3))))
	tells(t, "in the cache", d, 1, 3, 5, group(1, 3))
	d.Crash(nil)
	tells(t, "gone", d, 1, 3, 5)
}

func TestP5_1_GoesOnWhereItStood(t *testing.T) {
	d := made(t, 20)
	var groups [][][]byte
	for n := range 6 {
		l := tells(t, "ahead", d, 0, 20, 9, groups...)
		g := group(byte(n), 30*n, 5)
		if err := l.Append(g); err != api.OK {
			t.Fatalf("Append: %d", err)
		}
		groups = append(groups, g)
	}
	tells(t, "all", d, 0, 20, 9, groups...)
}

func TestP5_1_NilLog(t *testing.T) {
	var l *frame.Log
	for _, g := range [][][]byte{nil, {}, group(1, 1), group(1, 1000)} {
		if err := l.Append(g); err != api.ErrArg {
			t.Errorf("Append: %d", err)
		}
	}
	if l.Groups() != 0 || l.Left() != 0 || l.Gen() != 0 {
		t.Errorf("%d groups, %d left, generation %d", l.Groups(), l.Left(), l.Gen())
	}
	none := &frame.Log{}
	if err := none.Append(group(1, 1)); err != api.ErrDisk {
		t.Errorf("Append to a log of no sectors: %d", err)
	}
}

// bend answers the bytes with one changed.
func bend(b []byte, at int, to byte) []byte {
	b = bytes.Clone(b)
	b[at] = to
	return b
}

func TestP5_1_BentBytes(t *testing.T) {
	one, two, three := group(1, 20), group(2, 100, 20), group(3, 2)
	ahead, mid, behind := laid(6, 0, body(one)), laid(6, 1, body(two)), laid(6, 2, body(three))
	if len(mid) != 3*64 {
		t.Fatalf("%d bytes", len(mid))
	}
	for at := range mid {
		for bit := range 8 {
			b := slices.Concat(ahead, bend(mid, at, mid[at]^1<<bit), behind)
			tells(t, "a bent bit", stands(t, 8, 1, b), 1, 7, 6, one)
		}
	}
	for at := range ahead {
		b := slices.Concat(bend(ahead, at, ahead[at]+1), mid, behind)
		tells(t, "a bent byte of the first group", stands(t, 8, 1, b), 1, 7, 6)
	}
	tells(t, "nothing is bent", stands(t, 8, 1, slices.Concat(ahead, mid, behind)), 1, 7, 6, one, two, three)
}

func TestP5_1_GroupsThatAreNone(t *testing.T) {
	good := body(group(1, 20))
	cases := []struct {
		what string
		b    []byte
	}{
		{"a record too few bytes", []byte{5, 1, 2, 3, 4}},
		{"a byte behind the last record", append(bytes.Clone(good), 1)},
		{"a count in too many groups", []byte{0x81, 0x00, 7}},
		{"a count that ends too soon", []byte{0x80}},
		{"a count above 63 bits", bytes.Repeat([]byte{0xFF}, 12)},
		{"the greatest count", append(bytes.Repeat([]byte{0xFF}, 8), 0x7F)},
		{"a record behind a good one too short", append(bytes.Clone(good), 100, 1)},
		{"a record over sectors too short", append([]byte{0xC8, 0x01}, make([]byte, 199)...)},
	}
	for _, c := range cases {
		b := slices.Concat(laid(2, 0, good), laid(2, 1, c.b), laid(2, 2, good))
		tells(t, c.what, stands(t, 12, 0, b), 0, 12, 2, group(1, 20))
	}
}

func TestP5_1_WrongHeads(t *testing.T) {
	first, next := group(1, 20), body(group(2, 100))
	wrong := map[string][]byte{
		"the same number again":        laid(4, 0, next),
		"a number left out":            laid(4, 2, next),
		"a number below nought":        laid(4, -1, next),
		"an elder generation":          laid(3, 1, next),
		"a newer generation":           laid(5, 1, next),
		"a generation with a high bit": laid(4|math.MinInt, 1, next),
		"a number with a high bit":     laid(4, 1|math.MinInt, next),
		"noughts":                      make([]byte, 128),
		"a sector behind a head":       laid(4, 1, next)[64:],
		"a mark of an image":           bend(laid(4, 1, next), 0, 3),
		"a mark behind a head":         bend(laid(4, 1, next), 0, 2),
		"a head behind a head":         bend(laid(4, 1, next), 64, 1),
		"a nought behind a head":       bend(laid(4, 1, next), 64, 0),
		"no nought behind the bytes":   bend(laid(4, 1, next), 127, 1),
		"no nought in the head":        bend(laid(4, 1, []byte{0}), 63, 1),
	}
	for what, b := range wrong {
		d := stands(t, 8, 0, slices.Concat(laid(4, 0, body(first)), b, laid(4, 2, next)))
		l := tells(t, what, d, 0, 8, 4, first)
		g := group(7, 38)
		if err := l.Append(g); err != api.OK {
			t.Errorf("%s: Append: %d", what, err)
		}
		now, _ := opened(t, d, 0, 8, 4)
		if now.Groups() < 2 {
			t.Errorf("%s: %d groups", what, now.Groups())
		}
	}
}

func TestP5_1_CountsBeyondTheLog(t *testing.T) {
	b := body(group(2, 250))
	whole := laid(4, 0, b)
	for size := 1; size <= 5; size++ {
		d := stands(t, 8, 0, whole)
		if size*64 < len(whole) {
			tells(t, "cut short", d, 0, size, 4)
		} else {
			tells(t, "whole", d, 0, size, 4, group(2, 250))
		}
	}
	for _, count := range []uint32{40, 103, 1 << 20, math.MaxInt32, 1 << 31, math.MaxUint32} {
		head := laid(4, 0, nil)
		binary.BigEndian.PutUint32(head[17:], count)
		tells(t, "a great count", stands(t, 8, 7, head), 7, 1, 4)
		tells(t, "a great count", stands(t, 8, 0, head), 0, 8, 4)
	}
}

func TestP5_1_GroupOfNoBytesOnTheDisk(t *testing.T) {
	b := slices.Concat(laid(4, 0, nil), laid(4, 1, body(group(1, 3))))
	tells(t, "a head of no records", stands(t, 4, 0, b), 0, 4, 4, nil, group(1, 3))
}

func TestP5_1_ManyRecords(t *testing.T) {
	d := made(t, 200)
	g := make([][]byte, 5000)
	for i := range g {
		g[i] = text(byte(i), i%3)
	}
	l, _ := opened(t, d, 0, 200, 0)
	if err := l.Append(g); err != api.OK {
		t.Fatalf("Append: %d", err)
	}
	tells(t, "many", d, 0, 200, 0, g)
}

func TestP5_1_RecordBeyondMaxText(t *testing.T) {
	d := made(t, 2000)
	l, _ := opened(t, d, 0, 2000, 0)
	g := group(1, api.MaxText+1)
	if err := l.Append(g); err != api.OK {
		t.Fatalf("Append: %d", err)
	}
	tells(t, "a long record", d, 0, 2000, 0, g)
}

// heads answers a record whose bytes look like heads of a group, at each place that a sector may begin at.
func heads(gen, number int) []byte {
	fake := laid(gen, number, body(group(0xAA, 10)))
	return bytes.Repeat(append(fake, 1), 70)
}

func TestP5_2_RecordsThatLookLikeHeads(t *testing.T) {
	for _, number := range []int{0, 1, 2} {
		record := heads(8, number)
		d := made(t, 200)
		l, _ := opened(t, d, 0, 200, 8)
		l.Append([][]byte{record})
		l.Append(group(1, 1))
		tells(t, "records like heads", d, 0, 200, 8, [][]byte{record}, group(1, 1))

		need := frame.Sectors([][]byte{record})
		for cut := 1; cut <= need; cut++ {
			d := made(t, 200)
			l, _ := opened(t, d, 0, 200, 8)
			first := group(1, 1)
			if number > 0 {
				l.Append(first)
			}
			d.Cut(cut)
			l.Append([][]byte{record})
			d.Crash(slices.Repeat([]bool{cut%2 == 0, true}, 100))
			_, all := opened(t, d, 0, 200, 8)
			if number > 0 {
				if len(all) == 0 || !bytes.Equal(all[0], first[0]) {
					t.Fatalf("Cut(%d): %d records", cut, len(all))
				}
				all = all[1:]
			}
			if len(all) > 1 || len(all) == 1 && !bytes.Equal(all[0], record) {
				t.Fatalf("Cut(%d): %d records", cut, len(all))
			}
		}
	}
}

func TestP5_2_HeadsInTornTails(t *testing.T) {
	// A group's tail lasts without its head; a shorter group comes to its place, and ends within the tail.
	d := made(t, 40)
	l, _ := opened(t, d, 0, 40, 8)
	long := [][]byte{heads(8, 1)[:1000]}
	d.Cut(frame.Sectors(long))
	if err := l.Append(long); err != api.ErrDown {
		t.Fatalf("Append: %d", err)
	}
	d.Crash(nil)
	short := group(1, 10)
	for _, g := range [][][]byte{short, group(2, 100), group(3, 0)} {
		l, _ = opened(t, d, 0, 40, 8)
		if err := l.Append(g); err != api.OK {
			t.Fatalf("Append: %d", err)
		}
	}
	tells(t, "over a torn tail", d, 0, 40, 8, short, group(2, 100), group(3, 0))
}

// script is what the crash tests append: groups of one sector and of more.
func script() [][][]byte {
	return [][][]byte{group(1, 5), group(2, 150, 1), group(3, 38), group(4, 39), group(5, 0, 0), group(6, 101, 1)}
}

// torn answers a disk on which the script was cut off at a sector, and how many of its groups were answered.
func torn(t *testing.T, ground []byte, gen, cut int) (*disk.Disk, int) {
	t.Helper()
	d := stands(t, 20, 0, ground)
	l, all := opened(t, d, 2, 16, gen)
	if len(all) != 0 {
		t.Fatalf("%d records ahead", len(all))
	}
	d.Cut(cut)
	for n, g := range script() {
		if err := l.Append(g); err != api.OK {
			if err != api.ErrDown {
				t.Fatalf("Append: %d", err)
			}
			return d, n
		}
	}
	return d, len(script())
}

// grounds are what stands on the disk ahead of the script, of generation 5.
func grounds() [][]byte {
	noise := make([]byte, 20*64)
	rand.New(rand.NewSource(1)).Read(noise)
	full := bytes.Repeat([]byte{0xFF}, 20*64)
	elder, mixed := make([]byte, 20*64), bytes.Repeat([]byte{2}, 20*64)
	at := 2 * 64
	for n, g := range script() {
		at += copy(elder[at:], laid(4, n, body(g)))
	}
	for at, n := 2*64, 0; at < 18*64; at, n = at+64, n+1 {
		copy(mixed[at:], laid(4+n%2*2, n/3, []byte{1, byte(n)}))
	}
	return [][]byte{make([]byte, 20*64), noise, full, elder, mixed}
}

func TestP5_2_CrashAtEachSector(t *testing.T) {
	total := 0
	for _, g := range script() {
		total += frame.Sectors(g)
	}
	for _, ground := range grounds() {
		for cut := 1; cut <= total+1; cut++ {
			d, _ := torn(t, ground, 5, cut)
			for mask := range 1 << len(d.Dirty()) {
				d, answered := torn(t, ground, 5, cut)
				kept := make([]bool, len(d.Dirty()))
				for k := range kept {
					kept[k] = mask>>k&1 == 1
				}
				d.Crash(kept)
				afterCrash(t, d, 5, answered)
			}
		}
	}
}

// afterCrash asks that the groups that were answered are there, and perhaps the one behind them, and that the log goes on.
func afterCrash(t *testing.T, d *disk.Disk, gen, answered int) {
	t.Helper()
	l, all := opened(t, d, 2, 16, gen)
	groups := script()[:answered]
	if l.Groups() > answered {
		groups = script()[:answered+1]
	}
	if !same(all, slices.Concat(groups...)) {
		t.Fatalf("%d were answered: %d groups, %d records", answered, l.Groups(), len(all))
	}
	if answered == len(script()) && l.Groups() != answered {
		t.Fatalf("%d groups", l.Groups())
	}
	more := group(0x77, 60)
	if err := l.Append(more); err == api.ErrDisk && l.Left() < 2 {
		return
	} else if err != api.OK {
		t.Fatalf("Append behind the crash: %d", err)
	}
	tells(t, "behind the crash", d, 2, 16, gen, append(slices.Clone(groups), more)...)
}

func TestP5_2_ManyCrashes(t *testing.T) {
	for seed := range int64(150) {
		rng := rand.New(rand.NewSource(seed))
		d := made(t, 60)
		var groups [][][]byte
		for number := byte(1); number < 40; number++ {
			l, all := opened(t, d, 4, 50, 3)
			if len(groups) > l.Groups() || !same(all, slices.Concat(groups...)) {
				t.Fatalf("seed %d: %d groups of %d", seed, l.Groups(), len(groups))
			}
			d.Cut(rng.Intn(9))
			for range 3 {
				g := group(number, rng.Intn(90), rng.Intn(50))
				err := l.Append(g)
				if err == api.ErrDisk {
					break
				}
				groups = append(groups, g)
				if err != api.OK {
					break
				}
			}
			answered := l.Groups()
			kept := make([]bool, len(d.Dirty()))
			for k := range kept {
				kept[k] = rng.Intn(2) == 0
			}
			d.Crash(kept)
			l, _ = opened(t, d, 4, 50, 3)
			if l.Groups() < answered {
				t.Fatalf("seed %d: %d groups, %d were answered", seed, l.Groups(), answered)
			}
			groups = groups[:l.Groups()]
		}
	}
}

func TestP5_3_OtherGenerations(t *testing.T) {
	for _, ground := range grounds() {
		d := stands(t, 20, 0, ground)
		for _, gen := range []int{0, 1, 3, 5, 7, 4 << 8, math.MaxInt} {
			if _, all := opened(t, d, 2, 16, gen); len(all) != 0 {
				t.Errorf("generation %d: %d records", gen, len(all))
			}
		}
	}
}

func TestP5_3_ElderGroupsBehindTheNewer(t *testing.T) {
	elder := [][][]byte{group(1, 30), group(2, 30), group(3, 30), group(4, 30), group(5, 100)}
	d := made(t, 8)
	l, _ := opened(t, d, 0, 8, 10)
	for _, g := range elder {
		l.Append(g)
	}
	l = tells(t, "the newer, at first", d, 0, 8, 11)
	newer := [][][]byte{}
	for n := range 3 {
		g := group(byte(0x50+n), 31)
		if err := l.Append(g); err != api.OK {
			t.Fatalf("Append: %d", err)
		}
		newer = append(newer, g)
		tells(t, "the newer", d, 0, 8, 11, newer...)
		tells(t, "the elder, overwritten", d, 0, 8, 10)
		tells(t, "one that never was", d, 0, 8, 12)
	}
}

func TestP5_3_GreatGenerations(t *testing.T) {
	for _, gen := range []int{0, 1, 255, 256, 1 << 32, math.MaxInt - 1, math.MaxInt} {
		d := made(t, 4)
		l, _ := opened(t, d, 0, 4, gen)
		if err := l.Append(group(1, 50)); err != api.OK {
			t.Fatalf("Append: %d", err)
		}
		tells(t, "its own", d, 0, 4, gen, group(1, 50))
		for _, other := range []int{gen ^ 1, gen ^ 1<<31, gen ^ 1<<62, gen ^ 0xFF00} {
			tells(t, "another", d, 0, 4, other)
		}
	}
}

func TestP5_4_NothingIsShared(t *testing.T) {
	d := made(t, 20)
	l, _ := opened(t, d, 0, 20, 1)
	room := text(1, 80)
	g := append(make([][]byte, 0, 4), room[:50], room[50:60])
	want := [][]byte{bytes.Clone(g[0]), bytes.Clone(g[1])}
	l.Append(g)
	frame.Sectors(g)
	if !bytes.Equal(room, text(1, 80)) || !same(g, want) || g[:4][2] != nil || g[:4][3] != nil {
		t.Error("Append or Sectors changed its argument")
	}
	clear(room)
	clear(g)
	tells(t, "the argument changed", d, 0, 20, 1, want)
	_, one := opened(t, d, 0, 20, 1)
	_, two := opened(t, d, 0, 20, 1)
	for i := range one[0][:cap(one[0])] {
		one[0][:cap(one[0])][i] = 0xEE
	}
	if !bytes.Equal(one[1], want[1]) {
		t.Error("two records of an answer share their bytes")
	}
	clear(one)
	if !same(two, want) {
		t.Error("two answers share their bytes")
	}
	tells(t, "the answer changed", d, 0, 20, 1, want)
}
