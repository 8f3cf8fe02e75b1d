package twinwire_test

import (
	"testing"

	"twinwire/api"
	"twinwire/twinwire"
)

func msg(fields ...api.Field) api.Msg { return api.Msg{Fields: fields} }

func field(number int, values ...api.Value) api.Field {
	return api.Field{Number: number, Values: values}
}

// num is a number's value: one with a sign as 64 bits.
func num(n int) api.Value { return api.Value{N: uint64(n)} }

func text(s string) api.Value { return api.Value{S: s} }

// sub is a message's value.
func sub(fields ...api.Field) api.Value { return api.Value{M: msg(fields...)} }

// pair is an entry.
func pair(key, value api.Value) api.Value { return sub(field(1, key), field(2, value)) }

// unknown is a message that has unknown records alone.
func unknown(records string) api.Msg { return api.Msg{Unknown: records} }

// within is a message in a field of a message, and so on, so many times.
func within(number, times int, innermost api.Msg) api.Msg {
	for range times {
		innermost = msg(field(number, api.Value{M: innermost}))
	}
	return innermost
}

// wantWritten asks in both ways: for the bytes, how many they are, and whether they are read as what was written.
func wantWritten(t *testing.T, s *twinwire.Schema, name string, m api.Msg, b string) {
	t.Helper()
	for _, way := range bothWays {
		got, e := s.Encode(way, name, m)
		if e != api.OK || got != b {
			t.Errorf("Encode(%d, %s, %s): %x, %d, want %x", way, name, show(m), got, e, b)
		}
		if n, e := s.Size(way, name, m); e != api.OK || n != len(b) {
			t.Errorf("Size(%d, %s, %s): %d, %d, want %d", way, name, show(m), n, e, len(b))
		}
	}
	wantRead(t, s, name, b, show(m))
}

// wantWrittenHex is wantWritten, of bytes by their digits.
func wantWrittenHex(t *testing.T, s *twinwire.Schema, name string, m api.Msg, digits string) {
	t.Helper()
	wantWritten(t, s, name, m, unhex(t, digits))
}

// wantRefused asks for the bytes and how many they are; with an error there is nothing else. It does not show the message, which may be without an end.
func wantRefused(t *testing.T, s *twinwire.Schema, way int, name string, m api.Msg, e api.Errno) bool {
	t.Helper()
	b, gotB := s.Encode(way, name, m)
	n, gotN := s.Size(way, name, m)
	if b != "" || n != 0 || gotB != e || gotN != e {
		t.Errorf("Encode(%d, %s): %x, %d; Size: %d, %d; want %d", way, name, b, gotB, n, gotN, e)
		return false
	}
	return true
}

// wantNotSuch asks in both ways.
func wantNotSuch(t *testing.T, s *twinwire.Schema, name string, messages ...api.Msg) {
	t.Helper()
	for _, m := range messages {
		for _, way := range bothWays {
			if !wantRefused(t, s, way, name, m, api.ErrValue) {
				t.Errorf("of a message that is not such: %s", show(m))
			}
		}
	}
}

// wantEndless is wantNotSuch, of a message without an end.
func wantEndless(t *testing.T, s *twinwire.Schema, fields []api.Field) {
	t.Helper()
	for _, way := range bothWays {
		wantRefused(t, s, way, "A", api.Msg{Fields: fields}, api.ErrValue)
	}
}
