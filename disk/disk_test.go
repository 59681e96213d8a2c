package disk_test

import (
	"bytes"
	"math"
	"math/rand"
	"slices"
	"testing"

	"purser/api"
	"purser/disk"
)

// made answers a disk of so many sectors.
func made(t *testing.T, sectors int) *disk.Disk {
	t.Helper()
	d, err := disk.New(sectors)
	if err != api.OK || d == nil {
		t.Fatalf("New(%d): %d", sectors, err)
	}
	return d
}

// full answers a sector for each of the bytes, full of it.
func full(cs ...byte) []byte {
	var b []byte
	for _, c := range cs {
		b = append(b, bytes.Repeat([]byte{c}, 64)...)
	}
	return b
}

// holds asks all of the disk, whose sectors are full of these bytes.
func holds(t *testing.T, d *disk.Disk, what string, cs ...byte) {
	t.Helper()
	b, err := d.Read(0, d.Size())
	if err != api.OK || !bytes.Equal(b, full(cs...)) {
		t.Errorf("%s: %d, %v, not %v", what, err, firsts(b), cs)
	}
}

// firsts answers the first byte of each sector.
func firsts(b []byte) []byte {
	var cs []byte
	for i := 0; i < len(b); i += 64 {
		cs = append(cs, b[i])
	}
	return cs
}

func TestP4_1_New(t *testing.T) {
	for _, n := range []int{0, -1, math.MinInt, 8193, math.MaxInt} {
		if d, err := disk.New(n); d != nil || err != api.ErrArg {
			t.Errorf("New(%d): %v, %d", n, d != nil, err)
		}
	}
	for _, n := range []int{1, 2, 63, 8191, 8192} {
		d := made(t, n)
		if d.Size() != n || len(d.Dirty()) != 0 || d.Off() {
			t.Errorf("New(%d): %d sectors, dirty %v, off %v", n, d.Size(), d.Dirty(), d.Off())
		}
		holds(t, d, "new", make([]byte, n)...)
	}
}

func TestP4_1_ReadPlaces(t *testing.T) {
	d := made(t, 4)
	d.Write(0, full(1, 2))
	d.Sync()
	d.Write(1, full(7, 8))
	good := []struct {
		first, n int
		want     []byte
	}{
		{0, 0, nil}, {0, 1, full(1)}, {0, 4, full(1, 7, 8, 0)}, {1, 1, full(7)}, {1, 2, full(7, 8)}, {3, 1, full(0)}, {3, 0, nil}, {4, 0, nil},
	}
	for _, c := range good {
		if b, err := d.Read(c.first, c.n); err != api.OK || !bytes.Equal(b, c.want) {
			t.Errorf("Read(%d, %d): %v, %d", c.first, c.n, firsts(b), err)
		}
	}
	bad := [][2]int{
		{-1, 0}, {-1, 1}, {5, 0}, {4, 1}, {3, 2}, {0, 5}, {0, -1}, {4, -1}, {2, math.MinInt}, {5, -1}, {math.MaxInt, 1}, {math.MaxInt, math.MaxInt},
		{1, math.MaxInt}, {math.MinInt, 0}, {math.MinInt, math.MinInt}, {math.MinInt, math.MaxInt}, {math.MaxInt, 0}, {-1, 2}, {math.MaxInt, math.MinInt},
	}
	for _, c := range bad {
		if b, err := d.Read(c[0], c[1]); err != api.ErrArg || len(b) != 0 {
			t.Errorf("Read(%d, %d): %d bytes, %d", c[0], c[1], len(b), err)
		}
	}
}

func TestP4_1_WritePlaces(t *testing.T) {
	d := made(t, 3)
	d.Write(0, full(1, 2, 3))
	d.Sync()
	bad := []struct {
		first int
		b     []byte
	}{
		{0, make([]byte, 1)}, {0, make([]byte, 63)}, {0, make([]byte, 65)}, {0, make([]byte, 127)}, {2, full(9, 9)}, {0, full(9, 9, 9, 9)}, {3, full(9)},
		{-1, full(9)}, {-1, nil}, {4, nil}, {4, full(9)}, {math.MaxInt, full(9)}, {math.MinInt, full(9)}, {math.MaxInt, nil}, {math.MinInt, nil}, {2, make([]byte, 65)}, {3, make([]byte, 1)},
	}
	for _, c := range bad {
		if err := d.Write(c.first, c.b); err != api.ErrArg || len(d.Dirty()) != 0 {
			t.Errorf("Write(%d, %d bytes): %d, dirty %v", c.first, len(c.b), err, d.Dirty())
		}
	}
	holds(t, d, "behind refusals", 1, 2, 3)
	for first := range 4 {
		if err := d.Write(first, nil); err != api.OK || len(d.Dirty()) != 0 {
			t.Errorf("Write(%d, nothing): %d, dirty %v", first, err, d.Dirty())
		}
	}
	if err := d.Write(1, full(5, 6)); err != api.OK || !slices.Equal(d.Dirty(), []int{1, 2}) {
		t.Errorf("Write up to the end: %d, dirty %v", err, d.Dirty())
	}
	holds(t, d, "written", 1, 5, 6)
}

func TestP4_1_RefusedWriteIsNotCounted(t *testing.T) {
	d := made(t, 2)
	d.Cut(2)
	d.Write(1, full(1, 1))
	d.Write(0, make([]byte, 65))
	d.Write(0, nil)
	if err := d.Write(0, full(1)); err != api.OK || d.Off() {
		t.Errorf("the first sector: %d", err)
	}
	if err := d.Write(0, full(2)); err != api.ErrDown || !d.Off() {
		t.Errorf("the second sector: %d", err)
	}
}

func TestP4_1_DirtyRisesAndTellsEachOnce(t *testing.T) {
	d := made(t, 8)
	for _, i := range []int{5, 0, 7, 5, 3, 0} {
		d.Write(i, full(byte(i)))
	}
	if got := d.Dirty(); !slices.Equal(got, []int{0, 3, 5, 7}) {
		t.Errorf("dirty: %v", got)
	}
	// A sector that is written as it lasts is in the cache, too.
	d.Write(4, full(0))
	if got := d.Dirty(); !slices.Equal(got, []int{0, 3, 4, 5, 7}) {
		t.Errorf("dirty: %v", got)
	}
	if err := d.Sync(); err != api.OK || len(d.Dirty()) != 0 {
		t.Errorf("Sync: %d, dirty %v", err, d.Dirty())
	}
	d.Crash(nil)
	holds(t, d, "synced", 0, 0, 0, 3, 0, 5, 0, 7)
}

func TestP4_1_CutAtEachSectorOfAWrite(t *testing.T) {
	for cut := 1; cut <= 5; cut++ {
		d := made(t, 5)
		d.Write(0, full(1, 2, 3, 4, 5))
		d.Sync()
		d.Cut(cut)
		err := d.Write(1, full(6, 7, 8, 9))
		want, dirty := []byte{1, 6, 7, 8, 9}, []int{1, 2, 3, 4}
		if cut == 5 {
			if err != api.OK || d.Off() || !slices.Equal(d.Dirty(), dirty) {
				t.Errorf("Cut(5): %d, off %v, dirty %v", err, d.Off(), d.Dirty())
			}
			holds(t, d, "not cut", want...)
			continue
		}
		if err != api.ErrDown || !d.Off() || !slices.Equal(d.Dirty(), dirty[:cut]) {
			t.Errorf("Cut(%d): %d, off %v, dirty %v", cut, err, d.Off(), d.Dirty())
		}
		d.Crash([]bool{true, true, true, true})
		last := []byte{1, 2, 3, 4, 5}
		copy(last[1:1+cut], want[1:])
		holds(t, d, "cut and kept", last...)
	}
}

func TestP4_1_CutCountsOverWritesAndSyncs(t *testing.T) {
	d := made(t, 4)
	d.Cut(4)
	d.Write(0, full(1, 2))
	d.Sync()
	d.Read(0, 4)
	d.Dirty()
	if err := d.Write(0, full(3)); err != api.OK || d.Off() {
		t.Errorf("the third: %d", err)
	}
	if err := d.Write(2, full(4, 5)); err != api.ErrDown || !slices.Equal(d.Dirty(), []int{0, 2}) {
		t.Errorf("the fourth: %d, dirty %v", err, d.Dirty())
	}
}

func TestP4_1_LaterCutHolds(t *testing.T) {
	for _, n := range []int{0, -1, math.MinInt} {
		d := made(t, 3)
		d.Cut(1)
		d.Cut(n)
		if err := d.Write(0, full(1, 2, 3)); err != api.OK || d.Off() {
			t.Errorf("Cut(%d): %d", n, err)
		}
	}
	d := made(t, 3)
	d.Cut(1)
	d.Cut(3)
	if err := d.Write(0, full(1, 2)); err != api.OK {
		t.Errorf("Cut(3): %d", err)
	}
	d.Cut(2)
	if err := d.Write(0, full(1)); err != api.OK {
		t.Errorf("Cut(2): %d", err)
	}
	if err := d.Write(0, full(1)); err != api.ErrDown {
		t.Errorf("Cut(2), the second: %d", err)
	}
	d = made(t, 1)
	d.Cut(math.MaxInt)
	for range 100 {
		if err := d.Write(0, full(1)); err != api.OK {
			t.Errorf("Cut(MaxInt): %d", err)
		}
	}
}

func TestP4_1_NoPower(t *testing.T) {
	d := made(t, 3)
	d.Write(0, full(1, 2, 3))
	d.Sync()
	d.Cut(1)
	d.Write(2, full(9))
	for _, c := range [][2]int{{0, 1}, {0, 0}, {-1, 0}, {0, -1}, {3, 1}} {
		if b, err := d.Read(c[0], c[1]); err != api.ErrDown || len(b) != 0 {
			t.Errorf("Read(%d, %d): %d bytes, %d", c[0], c[1], len(b), err)
		}
	}
	for _, b := range [][]byte{nil, full(1), make([]byte, 3), full(1, 1, 1, 1)} {
		if err := d.Write(0, b); err != api.ErrDown {
			t.Errorf("Write(%d bytes): %d", len(b), err)
		}
	}
	if err := d.Write(-1, full(1)); err != api.ErrDown {
		t.Errorf("Write(-1): %d", err)
	}
	if err := d.Sync(); err != api.ErrDown {
		t.Errorf("Sync: %d", err)
	}
	if !slices.Equal(d.Dirty(), []int{2}) || !d.Off() || d.Size() != 3 {
		t.Errorf("dirty %v, off %v, %d sectors", d.Dirty(), d.Off(), d.Size())
	}
	// Told without power, it is forgotten by the Crash as any Cut.
	d.Cut(1)
	d.Crash([]bool{false})
	holds(t, d, "nothing kept", 1, 2, 3)
	if err := d.Write(0, full(4, 5, 6)); err != api.OK || d.Off() {
		t.Errorf("Write behind a Crash: %d", err)
	}
}

func TestP4_1_CrashKeepsWhatItIsTold(t *testing.T) {
	sectors := []int{1, 2, 4, 5}
	for mask := range 1 << 4 {
		for size := range 7 {
			d := made(t, 6)
			d.Write(0, full(10, 11, 12, 13, 14, 15))
			d.Sync()
			d.Write(4, full(24, 25))
			d.Write(1, full(21, 22))
			kept := make([]bool, size)
			want := []byte{10, 11, 12, 13, 14, 15}
			for k := range kept {
				kept[k] = k > 3 || mask>>k&1 == 1
				if k < 4 && kept[k] {
					want[sectors[k]] += 10
				}
			}
			d.Cut(1)
			d.Crash(kept)
			if len(d.Dirty()) != 0 || d.Off() {
				t.Errorf("Crash(%v): dirty %v, off %v", kept, d.Dirty(), d.Off())
			}
			holds(t, d, "behind a Crash", want...)
			if err := d.Write(0, full(1, 2, 3, 4)); err != api.OK {
				t.Errorf("Crash(%v): the Cut isn't forgotten: %d", kept, err)
			}
		}
	}
}

func TestP4_1_NilDisk(t *testing.T) {
	var d *disk.Disk
	d.Cut(1)
	d.Crash([]bool{true})
	d.Crash(nil)
	if b, err := d.Read(0, 0); len(b) != 0 || err != api.ErrArg {
		t.Errorf("Read: %d", err)
	}
	if err := d.Write(0, nil); err != api.ErrArg {
		t.Errorf("Write: %d", err)
	}
	if err := d.Write(0, full(1)); err != api.ErrArg {
		t.Errorf("Write: %d", err)
	}
	if err := d.Sync(); err != api.ErrArg {
		t.Errorf("Sync: %d", err)
	}
	if d.Size() != 0 || len(d.Dirty()) != 0 || !d.Off() {
		t.Errorf("%d sectors, dirty %v, off %v", d.Size(), d.Dirty(), d.Off())
	}
}

func TestP4_1_ZeroDisk(t *testing.T) {
	var d disk.Disk
	if b, err := d.Read(0, 0); len(b) != 0 || err != api.OK {
		t.Errorf("Read: %d", err)
	}
	if err := d.Write(0, full(1)); err != api.ErrArg {
		t.Errorf("Write: %d", err)
	}
	if err := d.Sync(); err != api.OK || d.Size() != 0 || len(d.Dirty()) != 0 || d.Off() {
		t.Errorf("Sync: %d", err)
	}
	d.Crash([]bool{true})
}

func TestP4_2_OnlySyncAndCrashMakeLast(t *testing.T) {
	d := made(t, 4)
	d.Write(0, full(1, 2, 3, 4))
	d.Sync()
	d.Write(0, full(5, 6, 7, 8))
	d.Write(1, full(9))
	d.Read(0, 4)
	d.Dirty()
	d.Off()
	d.Size()
	d.Cut(2)
	d.Write(2, full(11, 12))
	d.Sync()
	d.Crash(nil)
	holds(t, d, "nothing kept", 1, 2, 3, 4)
}

func TestP4_2_LastWrittenLasts(t *testing.T) {
	d := made(t, 2)
	d.Write(0, full(1, 2))
	d.Write(1, full(3))
	d.Write(1, full(4))
	d.Crash([]bool{false, true})
	holds(t, d, "kept", 0, 4)
	d.Write(0, full(5))
	d.Write(0, full(6))
	d.Sync()
	d.Write(0, full(7))
	d.Crash([]bool{false})
	holds(t, d, "synced", 6, 4)
}

// slow is a disk as the chapter's words are: each sector's bytes that last, and what was written on top.
type slow struct {
	last, top [][]byte
	cut       int
	off       bool
}

func (s *slow) write(first int, b []byte) api.Errno {
	for i := 0; i < len(b); i += 64 {
		s.top[first+i/64] = bytes.Clone(b[i : i+64])
		if s.cut > 0 {
			if s.cut--; s.cut == 0 {
				s.off = true
				return api.ErrDown
			}
		}
	}
	return api.OK
}

func (s *slow) settle(keep func(k int) bool) {
	k := 0
	for i := range s.top {
		if s.top[i] != nil {
			if keep(k) {
				s.last[i] = s.top[i]
			}
			s.top[i] = nil
			k++
		}
	}
}

func (s *slow) dirty() []int {
	var all []int
	for i, top := range s.top {
		if top != nil {
			all = append(all, i)
		}
	}
	return all
}

func (s *slow) read() []byte {
	var b []byte
	for i, top := range s.top {
		if top == nil {
			top = s.last[i]
		}
		b = append(b, top...)
	}
	return b
}

func TestP4_1_LongScripts(t *testing.T) {
	for seed := range int64(60) {
		rng := rand.New(rand.NewSource(seed))
		n := 1 + rng.Intn(9)
		d := made(t, n)
		s := &slow{last: make([][]byte, n), top: make([][]byte, n)}
		for i := range s.last {
			s.last[i] = make([]byte, 64)
		}
		for step := range 200 {
			stir(t, rng, d, s, n)
			if d.Off() != s.off || !slices.Equal(d.Dirty(), s.dirty()) {
				t.Fatalf("seed %d, step %d: off %v, dirty %v, not %v, %v", seed, step, d.Off(), d.Dirty(), s.off, s.dirty())
			}
			b, err := d.Read(0, n)
			if s.off && (err != api.ErrDown || b != nil) || !s.off && !bytes.Equal(b, s.read()) {
				t.Fatalf("seed %d, step %d: Read: %d", seed, step, err)
			}
		}
	}
}

// stir does one thing to both disks.
func stir(t *testing.T, rng *rand.Rand, d *disk.Disk, s *slow, n int) {
	switch k := rng.Intn(10); {
	case k < 5:
		first := rng.Intn(n + 1)
		b := make([]byte, 64*rng.Intn(n-first+1))
		rng.Read(b)
		want := api.ErrDown
		if !s.off {
			want = s.write(first, b)
		}
		if err := d.Write(first, b); err != want {
			t.Fatalf("Write: %d, not %d", err, want)
		}
	case k < 7:
		want := api.ErrDown
		if !s.off {
			want = api.OK
			s.settle(func(int) bool { return true })
		}
		if err := d.Sync(); err != want {
			t.Fatalf("Sync: %d, not %d", err, want)
		}
	case k < 8:
		s.cut = rng.Intn(6)
		d.Cut(s.cut)
	default:
		kept := make([]bool, rng.Intn(n+2))
		for i := range kept {
			kept[i] = rng.Intn(2) == 0
		}
		s.settle(func(k int) bool { return k < len(kept) && kept[k] })
		s.cut, s.off = 0, false
		d.Crash(kept)
	}
}

func TestP4_3_NothingIsShared(t *testing.T) {
	d := made(t, 3)
	room := full(1, 2, 99)
	b := room[:128]
	d.Write(0, b)
	if !bytes.Equal(room, full(1, 2, 99)) {
		t.Error("Write changed its argument")
	}
	clear(room)
	holds(t, d, "the argument changed", 1, 2, 0)
	one, _ := d.Read(0, 2)
	two, _ := d.Read(0, 2)
	clear(one[:cap(one)])
	if !bytes.Equal(two, full(1, 2)) {
		t.Error("two answers share their bytes")
	}
	holds(t, d, "the answer changed", 1, 2, 0)
	dirty := d.Dirty()
	clear(dirty[:cap(dirty)])
	if !slices.Equal(d.Dirty(), []int{0, 1}) {
		t.Errorf("dirty: %v", d.Dirty())
	}
	d.Sync()
	three, _ := d.Read(0, 3)
	clear(three[:cap(three)])
	holds(t, d, "the answer changed behind a Sync", 1, 2, 0)
	d.Write(0, full(3, 4))
	kept := []bool{true, false, true, true}
	d.Crash(kept[:2])
	if !slices.Equal(kept, []bool{true, false, true, true}) {
		t.Errorf("Crash changed its argument: %v", kept)
	}
	holds(t, d, "behind a Crash", 3, 2, 0)
}

func TestP4_3_TwoDisksAreTwo(t *testing.T) {
	one, two := made(t, 2), made(t, 2)
	one.Write(0, full(1, 2))
	one.Sync()
	one.Cut(1)
	one.Write(0, full(3))
	holds(t, two, "the other disk", 0, 0)
	if two.Off() || len(two.Dirty()) != 0 {
		t.Error("the other disk changed")
	}
}
