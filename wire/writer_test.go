package wire

import (
	"math"
	"strings"
	"testing"
)

func TestWriteVarint(t *testing.T) {
	for v, want := range map[uint64]string{0: "\x00", 127: "\x7f", 128: "\x80\x01", 150: "\x96\x01", 1<<14 - 1: "\xff\x7f", 1 << 14: "\x80\x80\x01", 1<<63 - 1: strings.Repeat("\xff", 8) + "\x7f", 1 << 63: strings.Repeat("\x80", 9) + "\x01", math.MaxUint64: strings.Repeat("\xff", 9) + "\x01"} {
		w := NewWriter(0)
		w.Varint(v)
		if w.Written() != want || VarintSize(v) != len(want) {
			t.Errorf("Varint(%d): %x, of %d bytes, want %x", v, w.Written(), VarintSize(v), want)
		}
	}
}

// Each number of bits: as long as what is written, and read as it was.
func TestVarintSizes(t *testing.T) {
	for shift := range 64 {
		for _, v := range []uint64{1 << shift, 1<<shift - 1, math.MaxUint64 >> shift} {
			w := NewWriter(VarintSize(v))
			w.Varint(v)
			if got := NewReader(w.Written()).Varint(); got != v || len(w.Written()) != VarintSize(v) {
				t.Errorf("Varint(%d): %x, read as %d", v, w.Written(), got)
			}
		}
	}
}

func TestWriteRecords(t *testing.T) {
	w := NewWriter(5)
	w.Tag(Tag{1, Four})
	w.Four(0xffffffff84030201)
	w.Tag(Tag{16, Eight})
	w.Eight(0x8807060504030201)
	w.Tag(Tag{1<<29 - 1, Long})
	w.Bytes("abc")
	w.Records("\x30\x07")
	want := "\x0d\x01\x02\x03\x84" + "\x81\x01\x01\x02\x03\x04\x05\x06\x07\x88" + "\xfa\xff\xff\xff\x0f\x03abc" + "\x30\x07"
	if w.Written() != want {
		t.Errorf("written %x, want %x", w.Written(), want)
	}
	if (Tag{15, Four}).Size() != 1 || (Tag{16, Varied}).Size() != 2 || (Tag{1<<29 - 1, Long}).Size() != 5 {
		t.Error("sizes of tags")
	}
	if LongSize(0) != 1 || LongSize(127) != 128 || LongSize(128) != 130 {
		t.Error("sizes with a length")
	}
}

func TestToZigzag(t *testing.T) {
	for n, want := range map[int64]uint64{0: 0, -1: 1, 1: 2, -2: 3, 1<<31 - 1: 1<<32 - 2, -1 << 31: 1<<32 - 1, math.MaxInt64: math.MaxUint64 - 1, math.MinInt64: math.MaxUint64} {
		if got := ToZigzag(uint64(n)); got != want || FromZigzag64(got) != uint64(n) {
			t.Errorf("ToZigzag(%d) = %d", n, got)
		}
	}
}
