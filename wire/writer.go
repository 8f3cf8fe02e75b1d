package wire

import (
	"math/bits"
	"strings"
)

// Writer puts bytes behind one another, all of them as short as they can be.
type Writer struct {
	out strings.Builder
}

// NewWriter is for so many bytes.
func NewWriter(size int) *Writer {
	w := &Writer{}
	w.out.Grow(size)
	return w
}

// Written is all that was written.
func (w *Writer) Written() string { return w.out.String() }

// Varint writes one.
func (w *Writer) Varint(v uint64) {
	for ; v >= moreBit; v >>= 7 {
		w.out.WriteByte(byte(v) | moreBit)
	}
	w.out.WriteByte(byte(v))
}

// Tag writes one.
func (w *Writer) Tag(t Tag) { w.Varint(t.bits()) }

// Four writes the lowest four bytes, the lowest first.
func (w *Writer) Four(v uint64) { w.lowestFirst(v, FourSize) }

// Eight writes eight bytes, the lowest first.
func (w *Writer) Eight(v uint64) { w.lowestFirst(v, EightSize) }

// Length writes what stands ahead of so many bytes.
func (w *Writer) Length(n int) { w.Varint(uint64(n)) }

// Bytes writes a length and so many bytes.
func (w *Writer) Bytes(b string) {
	w.Length(len(b))
	w.Records(b)
}

// Records writes bytes as they are.
func (w *Writer) Records(b string) { w.out.WriteString(b) }

func (w *Writer) lowestFirst(v uint64, n int) {
	for range n {
		w.out.WriteByte(byte(v))
		v >>= 8
	}
}

func (t Tag) bits() uint64 { return uint64(t.Number)<<3 | uint64(t.Kind) }

// Size is how many bytes a tag has.
func (t Tag) Size() int { return VarintSize(t.bits()) }

// VarintSize is how many bytes a varint has.
func VarintSize(v uint64) int { return (bits.Len64(v|1) + 6) / 7 }

// LongSize is how many bytes a length and so many bytes have.
func LongSize(n int) int { return VarintSize(uint64(n)) + n }
