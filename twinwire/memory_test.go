package twinwire_test

import (
	"strings"
	"sync"
	"testing"
	"unsafe"

	"twinwire/api"
)

// memory is where something lies: from a byte up to another one.
type memory struct{ from, to uintptr }

func (m memory) meets(o memory) bool { return m.from < o.to && o.from < m.to }

func ofText(s string) memory {
	from := uintptr(unsafe.Pointer(unsafe.StringData(s)))
	return memory{from, from + uintptr(len(s))}
}

// ofList is a list's memory, its spare room too.
func ofList[T any](l []T) memory {
	from := uintptr(unsafe.Pointer(unsafe.SliceData(l)))
	return memory{from, from + uintptr(cap(l))*unsafe.Sizeof(*new(T))}
}

// lists and texts tell the memory of all that there are in a message.
func lists(m api.Msg) []memory {
	all := []memory{ofList(m.Fields)}
	for _, f := range m.Fields {
		all = append(all, ofList(f.Values))
		for _, v := range f.Values {
			all = append(all, lists(v.M)...)
		}
	}
	return all
}

func texts(m api.Msg) []memory {
	all := []memory{ofText(m.Unknown)}
	for _, f := range m.Fields {
		for _, v := range f.Values {
			all = append(append(all, ofText(v.S)), texts(v.M)...)
		}
	}
	return all
}

// spoil writes over all that there is in a message, spare room too.
func spoil(m api.Msg) {
	fields := m.Fields[:cap(m.Fields)]
	for i, f := range fields {
		values := f.Values[:cap(f.Values)]
		for j, v := range values {
			spoil(v.M)
			values[j] = api.Value{N: 77, S: "spoilt"}
		}
		fields[i] = api.Field{Number: 77}
	}
}

const memorySchema = "message A { repeated int32 a=1; repeated string b=2; repeated A c=3; map<string,A> d=4; bytes e=5; A f=6; oneof o { string g=7; A h=8; } }"

func memoryBytes(t *testing.T) string {
	inner := "\x0a\x03\x01\x02\x03" + long(t, 2, "text") + long(t, 2, "more") + long(t, 5, "\xff\xfe") + "\x78\x01" + long(t, 8, "") + long(t, 7, "seven")
	entries := long(t, 4, long(t, 1, "key")+long(t, 2, inner)) + long(t, 4, "") + long(t, 4, long(t, 2, inner))
	return inner + long(t, 3, inner) + long(t, 3, "") + long(t, 3, inner) + long(t, 6, inner) + entries + long(t, 8, inner) + "\x79abcdefgh"
}

func TestP2DecodeAnswersNewMemory(t *testing.T) {
	s := mustParse(t, memorySchema)
	b := strings.Clone(memoryBytes(t))
	for _, way := range bothWays {
		first, e, _ := s.Decode(way, "A", b)
		second, _, _ := s.Decode(way, "A", b)
		if e != api.OK || len(lists(first)) < 20 {
			t.Fatalf("Decode(%d): %d, %s", way, e, show(first))
		}
		for _, m := range texts(first) {
			if m.meets(ofText(b)) {
				t.Errorf("way %d: a text of the answer lies in the bytes that were read", way)
			}
		}
		all := append(lists(first), lists(second)...)
		for i, m := range all {
			for _, o := range all[:i] {
				if m.meets(o) {
					t.Errorf("way %d: two lists share memory", way)
				}
			}
		}
	}
}

func TestP2DecodeAfterAnswersWereSpoilt(t *testing.T) {
	s := mustParse(t, memorySchema)
	b := memoryBytes(t)
	for _, way := range bothWays {
		first, _, _ := s.Decode(way, "A", b)
		want := show(first)
		spoil(first)
		wantRead(t, s, "A", b, want)
	}
}

func TestP1DecodeInSeveralGoroutines(t *testing.T) {
	const text = "message A { B b=1; repeated C c=2; } message B { map<bool,A> a=1; } message C { A a=1; B b=2; C c=3; }"
	bytes := map[string]string{"A": "0a060a04120212001202 1a00", "B": "0a0412020a00", "C": "1a021a00"}
	want := map[string]string{"A": "1={1={1=0 2={2=0}}} 2={3=0}", "B": "1={1=0 2={1=0}}", "C": "3={3=0}"}
	for range 20 {
		s := mustParse(t, text)
		var wait sync.WaitGroup
		for i := range 12 {
			name := []string{"A", "B", "C"}[i%3]
			b := unhex(t, bytes[name])
			wait.Go(func() {
				for range 5 {
					wantRead(t, s, name, b, want[name])
					wantFault(t, s, name, b+"\x00", api.ErrNumber, len(b))
				}
			})
		}
		wait.Wait()
	}
}
