// Package wire: what stands in bytes: varints, tags, four and eight bytes, lengths and what is within them; read, measured and written.
package wire

import (
	"strings"
	"unicode/utf8"

	"twinwire/api"
	"twinwire/fault"
)

// Kind is a record's: it tells what follows the tag.
type Kind int

const (
	Varied Kind = 0
	Eight  Kind = 1
	Long   Kind = 2
	Four   Kind = 5
)

// Tag is what a record begins with: a field's number, and a kind.
type Tag struct {
	Number int
	Kind   Kind
}

// How many bytes follow a tag of kind Four, Eight.
const (
	FourSize  = 4
	EightSize = 8
)

const (
	moreBit   = 0x80 // of a varint's byte: another one follows
	lastShift = 63   // of a varint's tenth byte, which has room for one bit
)

// Reader goes through bytes from the front on. Where they are wrong it gives up (see fault).
type Reader struct {
	bytes string // the whole, up to where this reader ends: so places are of the whole
	at    int
	deep  int // how many messages in one another this one is, the outermost one counted
}

// NewReader reads an outermost message.
func NewReader(b string) *Reader { return &Reader{bytes: b, deep: 1} }

// More tells whether there are bytes left.
func (r *Reader) More() bool { return r.at < len(r.bytes) }

// At is the next byte's place.
func (r *Reader) At() int { return r.at }

// Since is what was read from a place on.
func (r *Reader) Since(start int) string { return r.bytes[start:r.at] }

// Varint reads one.
func (r *Reader) Varint() uint64 {
	start, v := r.at, uint64(0)
	for shift := 0; ; shift += 7 {
		if !r.More() {
			fault.GiveUp(api.ErrCut, start)
		}
		b := r.bytes[r.at]
		if shift == lastShift && b > 1 {
			fault.GiveUp(api.ErrVarint, start)
		}
		r.at++
		v |= uint64(b&^moreBit) << shift
		if b&moreBit == 0 {
			return v
		}
	}
}

// Tag reads one.
func (r *Reader) Tag() Tag {
	start := r.at
	v := r.Varint()
	number, kind := v/8, Kind(v%8)
	if number == 0 || number > api.MaxNumber {
		fault.GiveUp(api.ErrNumber, start)
	}
	switch kind {
	case Varied, Eight, Long, Four:
	default:
		fault.GiveUp(api.ErrWire, start)
	}
	return Tag{int(number), kind}
}

// Four reads four bytes, the lowest first.
func (r *Reader) Four() uint64 { return lowestFirst(r.take(FourSize)) }

// Eight reads eight bytes, the lowest first.
func (r *Reader) Eight() uint64 { return lowestFirst(r.take(EightSize)) }

// Skip goes behind what follows a tag of that kind.
func (r *Reader) Skip(kind Kind) {
	switch kind {
	case Varied:
		r.Varint()
	case Eight:
		r.take(EightSize)
	case Four:
		r.take(FourSize)
	case Long:
		r.Within()
	}
}

// Within reads a length and goes behind so many bytes, which it leaves to the reader that it answers.
func (r *Reader) Within() *Reader {
	n := r.Varint()
	start := r.at
	r.take(n)
	return &Reader{bytes: r.bytes[:r.at], at: start, deep: r.deep}
}

// Message is Within, for a message. As many levels as told are at least in it, itself counted: where they would be too deep, none of its bytes are read.
func (r *Reader) Message(levels int) *Reader {
	in := r.Within()
	if in.deep+levels > api.MaxDeep {
		fault.GiveUp(api.ErrDeep, in.at)
	}
	in.deep++
	return in
}

// Bytes reads a length and so many bytes, of which it answers a copy.
func (r *Reader) Bytes() string {
	return strings.Clone(r.Within().left())
}

// Text is Bytes, of UTF-8.
func (r *Reader) Text() string {
	in := r.Within()
	if !utf8.ValidString(in.left()) {
		fault.GiveUp(api.ErrText, in.at)
	}
	return strings.Clone(in.left())
}

// left is what is not read yet.
func (r *Reader) left() string { return r.bytes[r.at:] }

// take goes behind n bytes, and answers them.
func (r *Reader) take(n uint64) string {
	if n > uint64(len(r.left())) {
		fault.GiveUp(api.ErrCut, r.at)
	}
	start := r.at
	r.at += int(n)
	return r.Since(start)
}

func lowestFirst(b string) uint64 {
	v := uint64(0)
	for i := len(b) - 1; i >= 0; i-- {
		v = v<<8 | uint64(b[i])
	}
	return v
}
