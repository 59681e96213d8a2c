package snap_test

import (
	"bytes"
	"encoding/binary"
	"hash/crc32"
	"math"
	"math/rand"
	"slices"
	"testing"

	"purser/api"
	"purser/disk"
	"purser/snap"
)

// first answers the first sector of a slot that has this image, put together from its places.
func first(gen uint64, image []byte) []byte {
	b := make([]byte, 64)
	b[0] = 3
	binary.BigEndian.PutUint64(b[1:], gen)
	binary.BigEndian.PutUint64(b[9:], uint64(len(image)))
	sum := crc32.NewIEEE()
	sum.Write(b[1:17])
	sum.Write(image)
	binary.BigEndian.PutUint32(b[17:], sum.Sum32())
	return b
}

// slot answers so many sectors that have this image.
func slot(size int, gen uint64, image []byte) []byte {
	b := make([]byte, 64*size)
	copy(b, first(gen, image))
	copy(b[64:], image)
	return b
}

// text answers n bytes, that begin with c and go on rising.
func text(c byte, n int) []byte {
	b := make([]byte, n)
	for i := range b {
		b[i] = c + byte(i)
	}
	return b
}

func made(t *testing.T, sectors int) *disk.Disk {
	t.Helper()
	d, err := disk.New(sectors)
	if err != api.OK {
		t.Fatalf("disk.New(%d): %d", sectors, err)
	}
	return d
}

// stands answers a disk on which these bytes last from the sector at on.
func stands(t *testing.T, sectors, at int, b []byte) *disk.Disk {
	t.Helper()
	d := made(t, sectors)
	if err := d.Write(at, b); err != api.OK {
		t.Fatalf("Write: %d", err)
	}
	d.Sync()
	return d
}

func dump(t *testing.T, d *disk.Disk) []byte {
	t.Helper()
	b, err := d.Read(0, d.Size())
	if err != api.OK {
		t.Fatalf("Read: %d", err)
	}
	return b
}

func save(t *testing.T, d *disk.Disk, at, size, gen int, image []byte) {
	t.Helper()
	if err := snap.Save(d, at, size, gen, image); err != api.OK {
		t.Fatalf("Save(%d, %d, %d, %d bytes): %d", at, size, gen, len(image), err)
	}
}

// loads holds what Load and Gens tell against the generations of both slots (0: none), and the image.
func loads(t *testing.T, what string, d *disk.Disk, at, size int, want [2]int, image []byte) {
	t.Helper()
	gens, has, err := snap.Gens(d, at, size)
	if gens != want || has != [2]bool{want[0] > 0, want[1] > 0} || err != api.OK {
		t.Errorf("%s: Gens: %v, %v, %d, not %v", what, gens, has, err, want)
	}
	err = api.OK
	if want == [2]int{} {
		err = api.ErrMiss
	}
	gen, b, e := snap.Load(d, at, size)
	if gen != max(want[0], want[1]) || !bytes.Equal(b, image) || e != err {
		t.Errorf("%s: Load: generation %d, %d bytes, %d", what, gen, len(b), e)
	}
}

func TestP6_1_Room(t *testing.T) {
	cases := map[int]int{
		1: 0, 2: 64, 3: 128, 100: 6336, 4096: 64 * 4095, 8191: 64 * 8190, 8192: 64 * 8191,
		0: 0, -1: 0, math.MinInt: 0, 8193: 0, math.MaxInt: 0, 1 << 58: 0,
	}
	for size, want := range cases {
		if got := snap.Room(size); got != want {
			t.Errorf("Room(%d) = %d, not %d", size, got, want)
		}
	}
}

func TestP6_1_Places(t *testing.T) {
	d := made(t, 9)
	bad := [][2]int{
		{-1, 1}, {-1, 4}, {0, 0}, {0, -1}, {0, 5}, {1, 5}, {2, 4}, {8, 1}, {9, 1}, {10, 1}, {9, 0}, {10, -1}, {-2, 5}, {20, -8},
		{math.MaxInt, 1}, {1, math.MaxInt}, {math.MaxInt, math.MaxInt}, {math.MinInt, 1}, {0, math.MinInt}, {math.MinInt, math.MinInt},
		{math.MinInt, math.MaxInt}, {0, 1 << 62}, {0, 1<<62 + 1}, {0, 1<<63 - 2}, {0, math.MinInt + 1},
	}
	for _, off := range []bool{false, true} {
		for _, c := range bad {
			if err := snap.Save(d, c[0], c[1], 1, make([]byte, 1000)); err != api.ErrArg {
				t.Errorf("Save at %v, off %v: %d", c, off, err)
			}
			if gen, b, err := snap.Load(d, c[0], c[1]); gen != 0 || b != nil || err != api.ErrArg {
				t.Errorf("Load at %v, off %v: %d, %d bytes, %d", c, off, gen, len(b), err)
			}
			if gens, has, err := snap.Gens(d, c[0], c[1]); gens != [2]int{} || has != [2]bool{} || err != api.ErrArg {
				t.Errorf("Gens at %v, off %v: %v, %v, %d", c, off, gens, has, err)
			}
		}
		for _, gen := range []int{0, -1, -2, math.MinInt} {
			if err := snap.Save(d, 0, 4, gen, make([]byte, 1000)); err != api.ErrArg {
				t.Errorf("Save of generation %d: %d", gen, err)
			}
		}
		d.Cut(1)
		d.Write(0, make([]byte, 64))
	}
	d.Crash(nil)
	for _, c := range [][2]int{{0, 4}, {1, 4}, {7, 1}, {0, 1}, {3, 3}} {
		loads(t, "an empty disk", d, c[0], c[1], [2]int{}, nil)
		save(t, d, c[0], c[1], 1, nil)
		loads(t, "an image of no bytes", d, c[0], c[1], [2]int{0, 1}, nil)
		d = made(t, 9)
	}
}

func TestP6_1_NoDisk(t *testing.T) {
	if err := snap.Save(nil, 0, 1, 1, nil); err != api.ErrArg {
		t.Errorf("Save: %d", err)
	}
	if gen, b, err := snap.Load(nil, 0, 1); gen != 0 || b != nil || err != api.ErrArg {
		t.Errorf("Load: %d", err)
	}
	if gens, has, err := snap.Gens(nil, 0, 1); gens != [2]int{} || has != [2]bool{} || err != api.ErrArg {
		t.Errorf("Gens: %d", err)
	}
	if err := snap.Save(&disk.Disk{}, 0, 1, 1, nil); err != api.ErrArg {
		t.Errorf("Save on no sectors: %d", err)
	}
}

func TestP6_1_NoPower(t *testing.T) {
	d := made(t, 8)
	save(t, d, 0, 4, 1, text(1, 100))
	d.Cut(1)
	d.Write(7, make([]byte, 64))
	if err := snap.Save(d, 0, 4, 2, make([]byte, 193)); err != api.ErrBig {
		t.Errorf("Save of too much: %d", err)
	}
	for _, image := range [][]byte{nil, text(1, 1), text(1, 192)} {
		if err := snap.Save(d, 0, 4, 2, image); err != api.ErrDown {
			t.Errorf("Save: %d", err)
		}
	}
	if gen, b, err := snap.Load(d, 0, 4); gen != 0 || b != nil || err != api.ErrDown {
		t.Errorf("Load: %d, %d bytes, %d", gen, len(b), err)
	}
	if gens, has, err := snap.Gens(d, 0, 4); gens != [2]int{} || has != [2]bool{} || err != api.ErrDown {
		t.Errorf("Gens: %v, %v, %d", gens, has, err)
	}
	d.Crash(nil)
	loads(t, "the power is on again", d, 0, 4, [2]int{0, 1}, text(1, 100))
}

func TestP6_1_TooBig(t *testing.T) {
	for size := 1; size <= 4; size++ {
		d := stands(t, 10, 0, bytes.Repeat([]byte{9}, 640))
		was := dump(t, d)
		room := 64 * (size - 1)
		d.Cut(1)
		for _, n := range []int{room + 1, room + 64, 100000} {
			if err := snap.Save(d, 1, size, 1, make([]byte, n)); err != api.ErrBig || d.Off() || len(d.Dirty()) != 0 {
				t.Errorf("size %d, %d bytes: %d", size, n, err)
			}
		}
		if !bytes.Equal(dump(t, d), was) {
			t.Errorf("size %d: the disk changed", size)
		}
		d.Cut(0)
		save(t, d, 1, size, 1, text(5, room))
		loads(t, "a full slot", d, 1, size, [2]int{0, 1}, text(5, room))
	}
	d := made(t, 8192)
	save(t, d, 0, 4096, 2, text(1, 64*4095))
	save(t, d, 0, 4096, 3, text(2, 64*4095))
	loads(t, "the greatest slots", d, 0, 4096, [2]int{2, 3}, text(2, 64*4095))
	if err := snap.Save(d, 0, 4096, 4, make([]byte, 64*4095+1)); err != api.ErrBig {
		t.Errorf("a byte too much: %d", err)
	}
}

func TestP6_1_BytesOnTheDisk(t *testing.T) {
	gens := []int{1, 2, 3, 4, 255, 256, 1 << 40, math.MaxInt - 1, math.MaxInt}
	for _, n := range []int{0, 1, 63, 64, 65, 128, 200, 256} {
		for _, gen := range gens {
			ground := bytes.Repeat([]byte{0xEE}, 14*64)
			d := stands(t, 14, 0, ground)
			save(t, d, 2, 5, gen, text(7, n))
			at := (2 + gen%2*5) * 64
			whole := (n + 63) / 64 * 64
			copy(ground[at:], slot(6, uint64(gen), text(7, n))[:64+whole])
			if !bytes.Equal(dump(t, d), ground) || len(d.Dirty()) != 0 {
				t.Errorf("generation %d, %d bytes: the disk isn't as the chapter says", gen, n)
			}
			want := [2]int{}
			want[gen%2] = gen
			loads(t, "saved", d, 2, 5, want, text(7, n))
		}
	}
}

func TestP6_1_WhatIsWrittenFirst(t *testing.T) {
	for cut, dirty := range map[int][]int{1: {6}, 2: {6, 7}, 3: {6, 7, 8}, 4: {5}} {
		d := made(t, 9)
		d.Cut(cut)
		if err := snap.Save(d, 1, 4, 1, text(1, 129)); err != api.ErrDown || !slices.Equal(d.Dirty(), dirty) {
			t.Errorf("Cut(%d): %d, dirty %v, not %v", cut, err, d.Dirty(), dirty)
		}
	}
	d := made(t, 9)
	d.Cut(5)
	save(t, d, 1, 4, 1, text(1, 129))
	if err := d.Write(0, make([]byte, 64)); err != api.ErrDown {
		t.Errorf("more than four sectors were counted, or fewer: %d", err)
	}
	d = made(t, 9)
	d.Cut(1)
	if err := snap.Save(d, 1, 4, 2, nil); err != api.ErrDown || !slices.Equal(d.Dirty(), []int{1}) {
		t.Errorf("an image of no bytes: %d, dirty %v", err, d.Dirty())
	}
	// Of no bytes there is one Sync alone: what else is in the cache doesn't last by another one.
	d = made(t, 9)
	d.Write(0, make([]byte, 64))
	d.Cut(1)
	if err := snap.Save(d, 1, 4, 2, nil); err != api.ErrDown || !slices.Equal(d.Dirty(), []int{0, 1}) {
		t.Errorf("no bytes, another sector in the cache: %d, dirty %v", err, d.Dirty())
	}
}

func TestP6_1_GreaterGenerationIsLoaded(t *testing.T) {
	for _, gens := range [][2]int{{2, 1}, {2, 3}, {8, 1}, {2, 101}, {math.MaxInt - 1, math.MaxInt}, {1 << 40, 1<<32 + 1}} {
		d := made(t, 8)
		save(t, d, 0, 4, gens[0], text(1, 10))
		save(t, d, 0, 4, gens[1], text(2, 20))
		want := text(1, 10)
		if gens[1] > gens[0] {
			want = text(2, 20)
		}
		loads(t, "both slots", d, 0, 4, gens, want)
	}
	// An elder generation takes the slot of a newer one.
	d := made(t, 8)
	save(t, d, 0, 4, 10, text(1, 10))
	save(t, d, 0, 4, 5, text(2, 20))
	save(t, d, 0, 4, 4, text(3, 30))
	loads(t, "an elder one was saved", d, 0, 4, [2]int{4, 5}, text(2, 20))
}

func TestP6_1_LoadReadsWhatWasWrittenLast(t *testing.T) {
	d := made(t, 8)
	save(t, d, 0, 4, 1, text(1, 10))
	d.Write(0, slot(4, 6, text(3, 100)))
	loads(t, "in the cache", d, 0, 4, [2]int{6, 1}, text(3, 100))
	d.Cut(1)
	snap.Gens(d, 0, 4)
	snap.Load(d, 0, 4)
	if len(d.Dirty()) != 4 || d.Off() {
		t.Errorf("dirty %v, off %v", d.Dirty(), d.Off())
	}
	d.Crash(nil)
	loads(t, "gone", d, 0, 4, [2]int{0, 1}, text(1, 10))
}

func TestP6_1_BentBytes(t *testing.T) {
	even, odd := slot(4, 8, text(1, 100)), slot(4, 9, text(2, 150))
	loads(t, "nothing is bent", stands(t, 8, 0, slices.Concat(even, odd)), 0, 4, [2]int{8, 9}, text(2, 150))
	for at := range odd {
		for bit := range 8 {
			bent := bytes.Clone(odd)
			bent[at] ^= 1 << bit
			d := stands(t, 8, 0, slices.Concat(even, bent))
			if at < 64+150 {
				loads(t, "a bent bit", d, 0, 4, [2]int{8, 0}, text(1, 100))
			} else {
				loads(t, "a bit behind the image", d, 0, 4, [2]int{8, 9}, text(2, 150))
			}
		}
	}
	for at := range 64 + 100 {
		bent := bytes.Clone(even)
		bent[at]++
		loads(t, "the other slot is bent", stands(t, 8, 0, slices.Concat(bent, odd)), 0, 4, [2]int{0, 9}, text(2, 150))
		bad := bytes.Clone(odd)
		bad[at]++
		loads(t, "both are bent", stands(t, 8, 0, slices.Concat(bent, bad)), 0, 4, [2]int{}, nil)
	}
}

func TestP6_1_SlotsThatHaveNone(t *testing.T) {
	image := text(4, 20)
	none := make([]byte, 64*3)
	loads(t, "an odd one in slot 0", stands(t, 6, 0, slot(3, 7, image)), 0, 3, [2]int{}, nil)
	loads(t, "an even one in slot 1", stands(t, 6, 3, slot(3, 8, image)), 0, 3, [2]int{}, nil)
	loads(t, "generation 0", stands(t, 6, 0, slot(3, 0, image)), 0, 3, [2]int{}, nil)
	for _, gen := range []uint64{1 << 63, 1<<63 + 1, math.MaxUint64, math.MaxUint64 - 1} {
		b := slices.Concat(none, slot(3, gen, image))
		if gen%2 == 0 {
			b = slices.Concat(slot(3, gen, image), none)
		}
		loads(t, "a generation above all ints", stands(t, 6, 0, b), 0, 3, [2]int{}, nil)
	}
	for _, count := range []uint64{129, 192, 1 << 31, 1 << 32, 1<<32 + 20, 1 << 58, 1<<63 - 1, 1 << 63, 1<<63 + 20, math.MaxUint64} {
		b := slot(3, 2, image)
		binary.BigEndian.PutUint64(b[9:], count)
		sum := crc32.Update(0, crc32.IEEETable, b[1:17])
		binary.BigEndian.PutUint32(b[17:], crc32.Update(sum, crc32.IEEETable, b[64:]))
		loads(t, "a count above Room", stands(t, 6, 0, b), 0, 3, [2]int{}, nil)
	}
	// The image would go on into the other slot.
	for _, n := range []int{129, 130, 192} {
		loads(t, "an image a little beyond its slot", stands(t, 6, 0, slot(4, 2, text(6, n))), 0, 3, [2]int{}, nil)
	}
	long := slot(5, 2, text(6, 200))
	loads(t, "an image beyond its slot", stands(t, 6, 0, long), 0, 3, [2]int{}, nil)
	loads(t, "the slot is greater", stands(t, 10, 0, long), 0, 5, [2]int{2, 0}, text(6, 200))
	for _, mark := range []byte{0, 1, 2, 4, 255} {
		b := slot(3, 2, image)
		b[0] = mark
		loads(t, "another mark", stands(t, 6, 0, b), 0, 3, [2]int{}, nil)
	}
}

func TestP6_1_NoughtsBehindTheHead(t *testing.T) {
	for at := 21; at < 64; at++ {
		b := slot(2, 2, nil)
		b[at] = 1
		loads(t, "no nought in the first sector", stands(t, 4, 0, b), 0, 2, [2]int{}, nil)
	}
	full := slot(2, 2, nil)
	copy(full[64:], text(1, 64))
	loads(t, "anything behind an image of no bytes", stands(t, 4, 0, full), 0, 2, [2]int{2, 0}, nil)
}

// images are those of the generations from 1 on.
func images() [][]byte {
	return [][]byte{text(1, 100), text(2, 192), nil, text(4, 1), text(5, 64), nil, text(7, 150), text(8, 150), text(7, 150), text(8, 150)}
}

// torn answers a disk on which the saves were cut off at a sector, and how many were answered.
func torn(t *testing.T, ground []byte, cut int) (*disk.Disk, int) {
	t.Helper()
	d := stands(t, 10, 0, ground)
	d.Cut(cut)
	for n, image := range images() {
		if err := snap.Save(d, 1, 4, n+1, image); err != api.OK {
			if err != api.ErrDown {
				t.Fatalf("Save: %d", err)
			}
			return d, n
		}
	}
	return d, len(images())
}

func TestP6_2_CrashAtEachSector(t *testing.T) {
	total := len(images())
	for _, image := range images() {
		total += (len(image) + 63) / 64
	}
	noise := make([]byte, 640)
	rand.New(rand.NewSource(3)).Read(noise)
	for _, ground := range [][]byte{make([]byte, 640), noise, bytes.Repeat([]byte{3}, 640)} {
		for cut := 1; cut <= total+1; cut++ {
			d, _ := torn(t, ground, cut)
			for mask := range 1 << len(d.Dirty()) {
				d, answered := torn(t, ground, cut)
				kept := make([]bool, len(d.Dirty()))
				for k := range kept {
					kept[k] = mask>>k&1 == 1
				}
				d.Crash(kept)
				afterCrash(t, d, answered)
			}
		}
	}
}

// afterCrash asks that the last image that was answered is there, or the one behind it, and that the next one comes to its place.
func afterCrash(t *testing.T, d *disk.Disk, answered int) {
	t.Helper()
	gen, b, err := snap.Load(d, 1, 4)
	if answered == 0 && err == api.ErrMiss {
		gen, err = 0, api.OK
	}
	if err != api.OK || gen != answered && gen != answered+1 || gen > len(images()) {
		t.Fatalf("%d were answered: generation %d, %d", answered, gen, err)
	}
	if gen > 0 && !bytes.Equal(b, images()[gen-1]) {
		t.Fatalf("generation %d: %d bytes", gen, len(b))
	}
	save(t, d, 1, 4, gen+1, text(0x70, 80))
	if now, b, err := snap.Load(d, 1, 4); now != gen+1 || !bytes.Equal(b, text(0x70, 80)) || err != api.OK {
		t.Fatalf("behind the crash: generation %d, %d bytes, %d", now, len(b), err)
	}
}

func TestP6_2_ManyCrashes(t *testing.T) {
	for seed := range int64(100) {
		rng := rand.New(rand.NewSource(seed))
		d := made(t, 16)
		gen, last := 0, []byte(nil)
		for range 60 {
			image := make([]byte, rng.Intn(7*64+1))
			rng.Read(image)
			d.Cut(rng.Intn(12))
			err := snap.Save(d, 0, 8, gen+1, image)
			kept := make([]bool, len(d.Dirty()))
			for k := range kept {
				kept[k] = rng.Intn(2) == 0
			}
			d.Crash(kept)
			now, b, e := snap.Load(d, 0, 8)
			if e == api.OK && now == gen+1 && bytes.Equal(b, image) {
				gen, last = now, image
			} else if err == api.OK || now != gen || !bytes.Equal(b, last) || e != api.OK && gen > 0 {
				t.Fatalf("seed %d: Save %d, Load: generation %d of %d, %d", seed, err, now, gen, e)
			}
		}
	}
}

func TestP6_3_NothingIsShared(t *testing.T) {
	d := made(t, 8)
	room := text(1, 192)
	save(t, d, 0, 4, 1, room[:100])
	if !bytes.Equal(room, text(1, 192)) {
		t.Error("Save changed its argument")
	}
	clear(room)
	loads(t, "the argument changed", d, 0, 4, [2]int{0, 1}, text(1, 100))
	_, one, _ := snap.Load(d, 0, 4)
	_, two, _ := snap.Load(d, 0, 4)
	clear(one[:cap(one)])
	if !bytes.Equal(two, text(1, 100)) {
		t.Error("two answers share their bytes")
	}
	loads(t, "the answer changed", d, 0, 4, [2]int{0, 1}, text(1, 100))
}
