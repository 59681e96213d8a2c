package crc_test

import (
	"bytes"
	"hash/crc32"
	"math/rand"
	"testing"

	"purser/crc"
)

func some(seed int64, n int) []byte {
	b := make([]byte, n)
	rand.New(rand.NewSource(seed)).Read(b)
	return b
}

func TestP2_1_KnownSums(t *testing.T) {
	cases := []struct {
		in   string
		want uint32
	}{
		{"", 0},
		{"123456789", 0xCBF43926},
		{"a", 0xE8B7BE43},
		{"abc", 0x352441C2},
		{"The quick brown fox jumps over the lazy dog", 0x414FA339},
		{"\x00", 0xD202EF8D},
		{"\x00\x00\x00\x00", 0x2144DF1C},
		{"\xFF\xFF\xFF\xFF", 0xFFFFFFFF},
	}
	for _, c := range cases {
		if got := crc.Sum([]byte(c.in)); got != c.want {
			t.Errorf("Sum(%q) = %X, not %X", c.in, got, c.want)
		}
		if got := crc.More(0, []byte(c.in)); got != c.want {
			t.Errorf("More(0, %q) = %X, not %X", c.in, got, c.want)
		}
	}
}

func TestP2_1_NoBytes(t *testing.T) {
	if got := crc.Sum(); got != 0 {
		t.Errorf("Sum() = %X", got)
	}
	if got := crc.Sum(nil, []byte{}, nil); got != 0 {
		t.Errorf("Sum of empty parts = %X", got)
	}
	for _, sum := range []uint32{0, 1, 0xCBF43926, 0xFFFFFFFF} {
		if got := crc.More(sum, nil); got != sum {
			t.Errorf("More(%X, nil) = %X", sum, got)
		}
	}
}

func TestP2_1_EachByteAndManySums(t *testing.T) {
	for c := range 256 {
		b := []byte{byte(c)}
		for _, sum := range []uint32{0, 1, 0x80000000, 0xCBF43926, 0xFFFFFFFF} {
			if got, want := crc.More(sum, b), crc32.Update(sum, crc32.IEEETable, b); got != want {
				t.Fatalf("More(%X, %X) = %X, not %X", sum, b, got, want)
			}
		}
	}
	for n := range 300 {
		b := some(int64(n), n)
		if got, want := crc.Sum(b), crc32.ChecksumIEEE(b); got != want {
			t.Fatalf("Sum of %d bytes = %X, not %X", n, got, want)
		}
	}
	b := some(1, 1<<20)
	if got, want := crc.Sum(b), crc32.ChecksumIEEE(b); got != want {
		t.Errorf("Sum of 2^20 bytes = %X, not %X", got, want)
	}
}

func TestP2_1_PartsAndMore(t *testing.T) {
	b := some(7, 60)
	want := crc32.ChecksumIEEE(b)
	for i := range len(b) + 1 {
		if got := crc.More(crc.Sum(b[:i]), b[i:]); got != want {
			t.Fatalf("More, parted at %d: %X, not %X", i, got, want)
		}
		for j := i; j <= len(b); j++ {
			if got := crc.Sum(b[:i], b[i:j], nil, b[j:]); got != want {
				t.Fatalf("Sum, parted at %d and %d: %X, not %X", i, j, got, want)
			}
		}
	}
	if crc.Sum([]byte("ab"), []byte("c")) == crc.Sum([]byte("c"), []byte("ab")) {
		t.Error("parts count in their order")
	}
}

func TestP2_2_ArgumentsStay(t *testing.T) {
	room := []byte("123456789")
	parts := [][]byte{room[:3], room[3:5], nil, room[5:7]}
	first := crc.Sum(parts...)
	crc.More(first, room[:4])
	if string(room) != "123456789" {
		t.Errorf("bytes were changed: %q", room)
	}
	if !bytes.Equal(parts[0], []byte("123")) || !bytes.Equal(parts[1], []byte("45")) || parts[2] != nil || !bytes.Equal(parts[3], []byte("67")) {
		t.Errorf("parts were changed: %q", parts)
	}
	parts[0][0] = 'x'
	if got, want := crc.Sum([]byte("1234567")), first; got != want {
		t.Errorf("bytes were kept: %X, not %X", got, want)
	}
	if got, want := crc.Sum(parts...), crc32.ChecksumIEEE([]byte("x234567")); got != want {
		t.Errorf("bytes were kept: %X, not %X", got, want)
	}
}
