package twinwire_test

import (
	"reflect"
	"slices"
	"strings"
	"sync"
	"testing"
	"unsafe"

	"twinwire/api"
)

// memory is where something lies: from a byte up to another one.
type memory struct{ from, to uintptr }

func (m memory) meets(o memory) bool { return m.from < o.to && o.from < m.to }

func ofText(s string) memory {
	from := uintptr(unsafe.Pointer(unsafe.StringData(s)))
	return memory{from, from + uintptr(len(s))}
}

// ofList is a list's memory, its spare room too.
func ofList[T any](l []T) memory {
	from := uintptr(unsafe.Pointer(unsafe.SliceData(l)))
	return memory{from, from + uintptr(cap(l))*unsafe.Sizeof(*new(T))}
}

// lists and texts tell the memory of all that there are in a message.
func lists(m api.Msg) []memory {
	all := []memory{ofList(m.Fields)}
	for _, f := range m.Fields {
		all = append(all, ofList(f.Values))
		for _, v := range f.Values {
			all = append(all, lists(v.M)...)
		}
	}
	return all
}

func texts(m api.Msg) []memory {
	all := []memory{ofText(m.Unknown)}
	for _, f := range m.Fields {
		for _, v := range f.Values {
			all = append(append(all, ofText(v.S)), texts(v.M)...)
		}
	}
	return all
}

// spoil writes over all that there is in a message, spare room too.
func spoil(m api.Msg) {
	fields := m.Fields[:cap(m.Fields)]
	for i, f := range fields {
		values := f.Values[:cap(f.Values)]
		for j, v := range values {
			spoil(v.M)
			values[j] = api.Value{N: 77, S: "spoilt"}
		}
		fields[i] = api.Field{Number: 77}
	}
}

const memorySchema = "message A { repeated int32 a=1; repeated string b=2; repeated A c=3; map<string,A> d=4; bytes e=5; A f=6; oneof o { string g=7; A h=8; } }"

func memoryBytes(t *testing.T) string {
	inner := "\x0a\x03\x01\x02\x03" + long(t, 2, "text") + long(t, 2, "more") + long(t, 5, "\xff\xfe") + "\x78\x01" + long(t, 8, "") + long(t, 7, "seven")
	entries := long(t, 4, long(t, 1, "key")+long(t, 2, inner)) + long(t, 4, "") + long(t, 4, long(t, 2, inner))
	return inner + long(t, 3, inner) + long(t, 3, "") + long(t, 3, inner) + long(t, 6, inner) + entries + long(t, 8, inner) + "\x79abcdefgh"
}

func TestP2DecodeAnswersNewMemory(t *testing.T) {
	s := mustParse(t, memorySchema)
	b := strings.Clone(memoryBytes(t))
	for _, way := range bothWays {
		first, e, _ := s.Decode(way, "A", b)
		second, _, _ := s.Decode(way, "A", b)
		if e != api.OK || len(lists(first)) < 20 {
			t.Fatalf("Decode(%d): %d, %s", way, e, show(first))
		}
		for _, m := range texts(first) {
			if m.meets(ofText(b)) {
				t.Errorf("way %d: a text of the answer lies in the bytes that were read", way)
			}
		}
		all := append(lists(first), lists(second)...)
		for i, m := range all {
			for _, o := range all[:i] {
				if m.meets(o) {
					t.Errorf("way %d: two lists share memory", way)
				}
			}
		}
	}
}

func TestP2DecodeAfterAnswersWereSpoilt(t *testing.T) {
	s := mustParse(t, memorySchema)
	b := memoryBytes(t)
	for _, way := range bothWays {
		first, _, _ := s.Decode(way, "A", b)
		want := show(first)
		spoil(first)
		wantRead(t, s, "A", b, want)
	}
}

// roomy is a copy of a message, with spare room in all of its lists, in which something stands.
func roomy(m api.Msg) api.Msg {
	fields := make([]api.Field, len(m.Fields), len(m.Fields)+2)
	for i, f := range m.Fields {
		values := make([]api.Value, len(f.Values), len(f.Values)+2)
		for j, v := range f.Values {
			values[j] = api.Value{N: v.N, S: strings.Clone(v.S), M: roomy(v.M)}
		}
		fields[i] = api.Field{Number: f.Number, Values: append(values, api.Value{N: 88})[:len(values)]}
	}
	return api.Msg{Fields: append(fields, api.Field{Number: 88})[:len(fields)], Unknown: strings.Clone(m.Unknown)}
}

// spread is a message with the spare room of its lists as a part of them.
func spread(m api.Msg) api.Msg {
	fields := slices.Clone(m.Fields[:cap(m.Fields)])
	for i, f := range fields {
		fields[i].Values = slices.Clone(f.Values[:cap(f.Values)])
		for j, v := range fields[i].Values {
			fields[i].Values[j].M = spread(v.M)
		}
	}
	return api.Msg{Fields: fields, Unknown: m.Unknown}
}

func TestP2EncodeChangesNothing(t *testing.T) {
	s := mustParse(t, memorySchema)
	m := roomy(mustRead(t, s, "A", memoryBytes(t)))
	before := spread(m)
	for _, way := range bothWays {
		b, e := s.Encode(way, "A", m)
		if n, f := s.Size(way, "A", m); e != api.OK || f != api.OK || n != len(b) {
			t.Errorf("Encode(%d): %x, %d, Size %d, %d", way, b, e, n, f)
		}
		if !reflect.DeepEqual(spread(m), before) {
			t.Errorf("Encode(%d) changed the message, or spare room of its lists", way)
		}
	}
	m.Fields[0].Number = 99
	before = spread(m)
	wantNotSuch(t, s, "A", m)
	if !reflect.DeepEqual(spread(m), before) {
		t.Error("a message that is not such was changed")
	}
}

func TestP2EncodeAnswersNewMemory(t *testing.T) {
	s := mustParse(t, memorySchema)
	for _, m := range []api.Msg{mustRead(t, s, "A", memoryBytes(t)), unknown(strings.Clone("\x79abcdefgh"))} {
		for _, way := range bothWays {
			first, _ := s.Encode(way, "A", m)
			second, _ := s.Encode(way, "A", m)
			if len(first) == 0 || ofText(first).meets(ofText(second)) {
				t.Errorf("way %d: two answers share memory: %x", way, first)
			}
			for _, of := range texts(m) {
				if of.meets(ofText(first)) {
					t.Errorf("way %d: the answer lies in a text of the message", way)
				}
			}
		}
	}
}

func TestP2EncodeAfterMessagesWereSpoilt(t *testing.T) {
	s := mustParse(t, memorySchema)
	m := mustRead(t, s, "A", memoryBytes(t))
	want := mustWrite(t, s, "A", m)
	for _, way := range bothWays {
		copied := roomy(m)
		b, _ := s.Encode(way, "A", copied)
		spoil(copied)
		if b != want {
			t.Errorf("Encode(%d): %x, want %x", way, b, want)
		}
		wantWritten(t, s, "A", m, want)
	}
}

// goroutinesMessages are of the schema below, with their bytes.
var goroutinesMessages = []struct {
	name, digits string
	m            api.Msg
}{
	{"A", "0a 08 0a 06 08 00 12 02 12 00 12 02 1a 00", msg(field(1, sub(field(1, pair(num(0), sub(field(2, sub())))))), field(2, sub(field(3, sub()))))},
	{"B", "0a 06 08 01 12 02 0a 00", msg(field(1, pair(num(1), sub(field(1, sub())))))},
	{"C", "1a 02 1a 00", msg(field(3, sub(field(3, sub()))))},
}

func TestP1EncodeInSeveralGoroutines(t *testing.T) {
	const text = "message A { B b=1; repeated C c=2; } message B { map<bool,A> a=1; } message C { A a=1; B b=2; C c=3; }"
	for range 20 {
		s := mustParse(t, text)
		var wait sync.WaitGroup
		for i := range 12 {
			c := goroutinesMessages[i%3]
			b := unhex(t, c.digits)
			wait.Go(func() {
				for range 5 {
					wantWritten(t, s, c.name, c.m, b)
					wantNotSuch(t, s, c.name, msg(field(9, num(1))))
				}
			})
		}
		wait.Wait()
	}
}

func TestP1DecodeInSeveralGoroutines(t *testing.T) {
	const text = "message A { B b=1; repeated C c=2; } message B { map<bool,A> a=1; } message C { A a=1; B b=2; C c=3; }"
	bytes := map[string]string{"A": "0a060a04120212001202 1a00", "B": "0a0412020a00", "C": "1a021a00"}
	want := map[string]string{"A": "1={1={1=0 2={2=0}}} 2={3=0}", "B": "1={1=0 2={1=0}}", "C": "3={3=0}"}
	for range 20 {
		s := mustParse(t, text)
		var wait sync.WaitGroup
		for i := range 12 {
			name := []string{"A", "B", "C"}[i%3]
			b := unhex(t, bytes[name])
			wait.Go(func() {
				for range 5 {
					wantRead(t, s, name, b, want[name])
					wantFault(t, s, name, b+"\x00", api.ErrNumber, len(b))
				}
			})
		}
		wait.Wait()
	}
}
