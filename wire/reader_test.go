package wire

import (
	"strings"
	"testing"

	"twinwire/api"
	"twinwire/fault"
)

// givenUp is what read gives up with.
func givenUp(read func()) (f fault.Fault) {
	defer func() {
		if r := recover(); r != nil {
			f = r.(fault.Fault)
		}
	}()
	read()
	return fault.Fault{}
}

func TestVarint(t *testing.T) {
	for b, want := range map[string]uint64{"\x00": 0, "\x7f": 127, "\x80\x01": 128, "\x80\x00": 0, "\x96\x01": 150, strings.Repeat("\xff", 9) + "\x01": 1<<64 - 1, strings.Repeat("\x80", 9) + "\x00": 0, strings.Repeat("\x80", 9) + "\x01": 1 << 63} {
		r := NewReader(b + "\x05")
		if got := r.Varint(); got != want || r.At() != len(b) {
			t.Errorf("Varint of %x: %d, behind it %d", b, got, r.At())
		}
	}
	for b, want := range map[string]api.Errno{"": api.ErrCut, "\x80": api.ErrCut, strings.Repeat("\x80", 9): api.ErrCut, strings.Repeat("\x80", 9) + "\x02": api.ErrVarint, strings.Repeat("\x80", 10): api.ErrVarint} {
		r := NewReader("\x01" + b)
		r.Varint()
		if got := givenUp(func() { r.Varint() }); got != (fault.Fault{Err: want, At: 1}) {
			t.Errorf("Varint of %x: %v", b, got)
		}
	}
}

func TestWithin(t *testing.T) {
	r := NewReader("\x08\x03\x01\x02\x03\x04")
	r.Varint()
	in := r.Within()
	if in.At() != 2 || in.left() != "\x01\x02\x03" || r.left() != "\x04" || r.Since(1) != "\x03\x01\x02\x03" {
		t.Errorf("within %x at %d, left %x", in.left(), in.At(), r.left())
	}
	in.Varint()
	if got := givenUp(func() { in.Four() }); got != (fault.Fault{Err: api.ErrCut, At: 3}) {
		t.Errorf("four bytes of two: %v", got)
	}
}

func TestMessageLevels(t *testing.T) {
	r := NewReader(strings.Repeat("\x00", 20))
	for deep := 1; deep < api.MaxDeep; deep++ {
		r.deep = deep
		if in := r.Message(1); in.deep != deep+1 {
			t.Errorf("a message in one that is %d deep: %d", deep, in.deep)
		}
	}
	r.deep = api.MaxDeep - 1
	if got := givenUp(func() { r.Message(2) }); got != (fault.Fault{Err: api.ErrDeep, At: r.At()}) {
		t.Errorf("two levels too deep: %v", got)
	}
	r.deep = api.MaxDeep
	if got := givenUp(func() { r.Message(1) }); got != (fault.Fault{Err: api.ErrDeep, At: r.At()}) {
		t.Errorf("one level too deep: %v", got)
	}
}

func TestSkip(t *testing.T) {
	for kind, b := range map[Kind]string{Varied: "\x80\x01", Eight: "12345678", Four: "1234", Long: "\x02ab"} {
		r := NewReader(b + "more")
		if r.Skip(kind); r.At() != len(b) {
			t.Errorf("Skip(%d): at %d", kind, r.At())
		}
	}
}

func TestNumbers(t *testing.T) {
	for v, want := range map[uint64]int64{0: 0, 1: -1, 2: 1, 3: -2, 1<<32 - 1: -1 << 31, 1<<32 - 2: 1<<31 - 1} {
		if FromZigzag64(v) != uint64(want) || FromZigzag32(v) != uint64(want) || FromZigzag32(v+5<<32) != uint64(want) {
			t.Errorf("zigzag of %d", v)
		}
	}
	if FromZigzag64(1<<64-1) != 1<<63 || FromZigzag64(1<<64-2) != 1<<63-1 {
		t.Error("zigzag at the ends")
	}
	if Signed32(1<<31) != 1<<64-1<<31 || Signed32(1<<31-1) != 1<<31-1 || Signed32(7<<32+1) != 1 || Low32(1<<64-1) != 1<<32-1 {
		t.Error("32 bits")
	}
	if Truth(0) != 0 || Truth(1<<63) != 1 {
		t.Error("truth")
	}
}
