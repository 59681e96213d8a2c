package bigend_test

import (
	"encoding/binary"
	"math"
	"testing"

	"purser/bigend"
)

func TestHighestByteFirst(t *testing.T) {
	for _, n := range []uint64{0, 1, 255, 256, 0x0102030405060708, 1<<63 - 1, 1 << 63, math.MaxUint64} {
		want := binary.BigEndian.AppendUint64([]byte("ab"), n)
		if got := bigend.Append([]byte("ab"), n, 8); string(got) != string(want) {
			t.Errorf("Append(%d): %X", n, got)
		}
		if got := bigend.Read(want[2:]); got != n {
			t.Errorf("Read(%X) = %d", want[2:], got)
		}
		if got := bigend.Append(nil, n, 4); string(got) != string(want[6:]) {
			t.Errorf("Append(%d) in 4 bytes: %X", n, got)
		}
	}
}

func TestNoBytes(t *testing.T) {
	if got := bigend.Append([]byte("a"), 7, 0); string(got) != "a" {
		t.Errorf("no bytes: %X", got)
	}
	if got := bigend.Read(nil); got != 0 {
		t.Errorf("of no bytes: %d", got)
	}
}
