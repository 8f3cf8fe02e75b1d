package twinwire_test

// The document's words on messages that are such, and on writing, once more and as plainly as can be.

import (
	"encoding/binary"
	"math/rand/v2"
	"slices"
	"strings"
	"testing"
	"unicode/utf8"

	"twinwire/api"
)

func entryFields(f plainField) []plainField {
	return []plainField{{1, "optional", "", f.key}, {2, "optional", "", f.word}}
}

func (s plainSchema) isMessage(word string) bool { return s[word] != nil }

func plainFieldOf(fields []plainField, number int) *plainField {
	for _, f := range fields {
		if f.number == number {
			return &f
		}
	}
	return nil
}

// such tells whether a message of those fields is such.
func (s plainSchema) such(fields []plainField, m api.Msg, deep int) bool {
	if deep > 8 {
		return false
	}
	last, oneofs := 0, map[string]int{}
	for _, f := range m.Fields {
		p := plainFieldOf(fields, f.Number)
		if p == nil || f.Number <= last || !s.suchValues(*p, f.Values, deep) {
			return false
		}
		last = f.Number
		switch p.form {
		case "", "optional", "repeated", "map":
		default:
			oneofs[p.form]++
			if oneofs[p.form] > 1 {
				return false
			}
		}
	}
	r, read := plainReader{s: s, b: m.Unknown}, api.Msg{}
	r.message(fields, 0, len(m.Unknown), deep, &read)
	return r.fault == nil && read.Unknown == m.Unknown
}

func (s plainSchema) suchValues(f plainField, l []api.Value, deep int) bool {
	many := f.form == "repeated" || f.form == "map"
	if len(l) == 0 || len(l) > 1 && !many {
		return false
	}
	for i, v := range l {
		switch {
		case f.form == "map":
			if v.N != 0 || v.S != "" || len(v.M.Fields) != 2 || v.M.Unknown != "" || !s.such(entryFields(f), v.M, deep+1) {
				return false
			}
			if i > 0 && !plainBelow(f.key, l[i-1].M.Fields[0].Values[0], v.M.Fields[0].Values[0]) {
				return false
			}
		case s.isMessage(f.word):
			if v.N != 0 || v.S != "" || !s.such(s[f.word], v.M, deep+1) {
				return false
			}
		default:
			if len(v.M.Fields) > 0 || v.M.Unknown != "" || !plainOfType(f.word, v) || f.form == "" && v.N == 0 && v.S == "" {
				return false
			}
		}
	}
	return true
}

func plainOfType(word string, v api.Value) bool {
	n := int64(v.N)
	switch word {
	case "string":
		return v.N == 0 && utf8.ValidString(v.S)
	case "bytes":
		return v.N == 0
	case "bool":
		return v.S == "" && n >= 0 && n < 2
	case "uint32", "fixed32", "float":
		return v.S == "" && n >= 0 && n < 1<<32
	case "int64", "sint64", "sfixed64", "uint64", "fixed64", "double":
		return v.S == ""
	}
	return v.S == "" && n >= -1<<31 && n < 1<<31
}

func plainBelow(word string, a, b api.Value) bool {
	switch {
	case word == "string":
		return a.S < b.S
	case strings.HasPrefix(word, "s") || strings.HasPrefix(word, "int"):
		return int64(a.N) < int64(b.N)
	}
	return a.N < b.N
}

// write is for a message that is such.
func (s plainSchema) write(fields []plainField, m api.Msg) []byte {
	var b []byte
	for _, f := range m.Fields {
		p := plainFieldOf(fields, f.Number)
		kind := (&plainReader{s: s}).kindOf(p.word)
		if p.form == "repeated" && kind != 2 {
			var packed []byte
			for _, v := range f.Values {
				packed = append(packed, s.body(*p, kind, v)...)
			}
			b = appendLong(binary.AppendUvarint(b, uint64(f.Number*8+2)), packed)
			continue
		}
		if p.form == "map" {
			kind = 2
		}
		for _, v := range f.Values {
			b = append(binary.AppendUvarint(b, uint64(f.Number*8+kind)), s.body(*p, kind, v)...)
		}
	}
	return append(b, m.Unknown...)
}

func appendLong(b, more []byte) []byte {
	return append(binary.AppendUvarint(b, uint64(len(more))), more...)
}

// body is what follows a tag.
func (s plainSchema) body(f plainField, kind int, v api.Value) []byte {
	switch {
	case f.form == "map":
		return appendLong(nil, s.write(entryFields(f), v.M))
	case s.isMessage(f.word):
		return appendLong(nil, s.write(s[f.word], v.M))
	case kind == 2:
		return appendLong(nil, []byte(v.S))
	case kind == 1:
		return binary.LittleEndian.AppendUint64(nil, v.N)
	case kind == 5:
		return binary.LittleEndian.AppendUint32(nil, uint32(v.N))
	case strings.HasPrefix(f.word, "sint"):
		return binary.AppendVarint(nil, int64(v.N))
	}
	return binary.AppendUvarint(nil, v.N)
}

// edges are numbers at which types end.
var edges = []int{0, 1, 2, 127, 128, 1<<31 - 1, 1 << 31, 1<<32 - 1, 1 << 32, 1<<63 - 1, -1, -2, -1 << 31, -1<<31 - 1, -1 << 63}

// value makes one of a field's type that is such.
func (k maker) value(s plainSchema, f plainField, room int) api.Value {
	switch {
	case s.isMessage(f.word):
		return api.Value{M: k.such(s, s[f.word], room)}
	case f.word == "string" || f.word == "bytes":
		return text(k.one([]string{"", "a", "b", "ab", "\u00e9", "zz", strings.Repeat("long ", 30)}))
	}
	for {
		if v := num(edges[k.IntN(len(edges))]); plainOfType(f.word, v) {
			return v
		}
	}
}

func (k maker) entries(s plainSchema, f plainField, room int) []api.Value {
	var l []api.Value
	for range 1 + k.IntN(4) {
		key := k.value(s, plainField{word: f.key}, 0)
		if !slices.ContainsFunc(l, func(e api.Value) bool { o := e.M.Fields[0].Values[0]; return o.N == key.N && o.S == key.S }) {
			l = append(l, pair(key, k.value(s, plainField{word: f.word}, room-1)))
		}
	}
	slices.SortFunc(l, func(a, b api.Value) int {
		if plainBelow(f.key, a.M.Fields[0].Values[0], b.M.Fields[0].Values[0]) {
			return -1
		}
		return 1
	})
	return l
}

// such makes a message that is such; room is how many more may be in it.
func (k maker) such(s plainSchema, fields []plainField, room int) api.Msg {
	var m api.Msg
	oneofs := map[string]int{}
	for _, i := range k.Perm(len(fields)) {
		f := fields[i]
		levels := 0
		if s.isMessage(f.word) {
			levels++
		}
		if f.form == "map" {
			levels++
		}
		if levels > room || k.IntN(2+2*levels) > 1 {
			continue
		}
		var l []api.Value
		switch f.form {
		case "map":
			l = k.entries(s, f, room-1)
		case "repeated":
			for range 1 + k.IntN(3) {
				l = append(l, k.value(s, f, room-1))
			}
		default:
			l = []api.Value{k.value(s, f, room-1)}
			if f.form == "" && !s.isMessage(f.word) && l[0].N == 0 && l[0].S == "" || oneofs[f.form] > 0 {
				continue
			}
			if f.form != "" && f.form != "optional" {
				oneofs[f.form]++
			}
		}
		setValues(&m, f.number, l)
	}
	if k.IntN(4) == 0 {
		m.Unknown = k.one([]string{"\x20\x05", "\x2a\x01x", "\x31abcdefgh", "\x20\x81\x00\x22\x00", "\x25abcd"})
	}
	return m
}

// spoilt makes a message another one, at one place in it: mostly one that is not such.
func (k maker) spoilt(m api.Msg) api.Msg {
	m.Fields = slices.Clone(m.Fields)
	if len(m.Fields) == 0 || k.IntN(6) == 0 {
		switch k.IntN(3) {
		case 0:
			m.Unknown += k.one([]string{"\x08\x01", "\x0a\x00", "\x12\x01x", "\x00", "\x20", "\x19abcdefgh", "\x20\x01"})
		case 1:
			m.Fields = append(m.Fields, field([]int{1, 2, 3, 15, 16, 17}[k.IntN(6)], num(k.IntN(2))))
		case 2:
			slices.Reverse(m.Fields)
		}
		return m
	}
	i := k.IntN(len(m.Fields))
	f := m.Fields[i]
	f.Values = slices.Clone(f.Values)
	m.Fields[i] = f
	if len(f.Values) == 0 {
		return m
	}
	j := k.IntN(len(f.Values))
	switch k.IntN(10) {
	case 0:
		m.Fields[i].Values = slices.Delete(f.Values, j, j+1)
	case 1:
		m.Fields[i].Values = append(f.Values, f.Values[j])
	case 2:
		f.Values[j].N = uint64(edges[k.IntN(len(edges))])
	case 3:
		f.Values[j].S = k.one([]string{"", "x", "\xff"})
	case 4:
		m.Fields = slices.Delete(m.Fields, i, i+1)
	case 5:
		m.Fields[i].Number += k.IntN(3) - 1
	case 6:
		slices.Reverse(f.Values)
	default:
		f.Values[j].M = k.spoilt(f.Values[j].M)
	}
	return m
}

// any is one of a schema's messages.
func (k maker) any(s plainSchema) string {
	if name := k.one([]string{"A", "A", "B", "C"}); s[name] != nil {
		return name
	}
	return "A"
}

func TestP6AgainstThePlainWriter(t *testing.T) {
	k := maker{rand.New(rand.NewPCG(3, 4))}
	seen := map[api.Errno]int{}
	for range 1000 {
		plain := k.schema()
		s := mustParse(t, plain.text())
		for i := range 20 {
			name := k.any(plain)
			m := k.such(plain, plain[name], 6+k.IntN(4))
			if i%2 == 1 {
				m = k.spoilt(m)
			}
			want, wantE := "", api.ErrValue
			if plain.such(plain[name], m, 1) {
				want, wantE = string(plain.write(plain[name], m)), api.OK
			}
			seen[wantE]++
			before := show(m)
			for _, way := range bothWays {
				b, e := s.Encode(way, name, m)
				n, f := s.Size(way, name, m)
				if b != want || n != len(want) || e != wantE || f != wantE {
					t.Fatalf("%s\nEncode(%d, %s, %s):\n%x, %d, Size %d, %d, want\n%x, %d", plain.text(), way, name, show(m), b, e, n, f, want, wantE)
				}
			}
			if show(m) != before {
				t.Fatalf("%s\na message was changed: %s, it was %s", plain.text(), show(m), before)
			}
			if wantE == api.OK {
				wantRead(t, s, name, want, before)
			}
		}
	}
	if seen[api.OK] < 8000 || seen[api.ErrValue] < 4000 {
		t.Errorf("%d that are such, %d that are not", seen[api.OK], seen[api.ErrValue])
	}
}

// wild makes a message that hardly knows of a schema.
func (k maker) wild(room int) api.Msg {
	var m api.Msg
	for range k.IntN(3) {
		f := field([]int{1, 2, 3, 15, 16, 2047, 536870911, 0, -1}[k.IntN(9)])
		for range k.IntN(3) {
			var v api.Value
			switch k.IntN(4) {
			case 0:
				v.N = uint64(edges[k.IntN(len(edges))])
			case 1:
				v.S = k.one([]string{"", "a", "\xff"})
			case 2:
				if room > 0 {
					v.M = k.wild(room - 1)
				}
			}
			f.Values = append(f.Values, v)
		}
		m.Fields = append(m.Fields, f)
	}
	if k.IntN(8) == 0 {
		m.Unknown = string(k.harm(k.varint()))
	}
	return m
}

func TestP4WildMessages(t *testing.T) {
	k := maker{rand.New(rand.NewPCG(9, 10))}
	seen := map[api.Errno]int{}
	for range 300 {
		plain := k.schema()
		s := mustParse(t, plain.text())
		for range 30 {
			m := k.wild(9)
			name := k.one([]string{"A", "A", "A", "B", "E"})
			var answers [2]api.Errno
			for i, way := range bothWays {
				b, e := s.Encode(way, name, m)
				n, f := s.Size(way, name, m)
				if e != f || n != len(b) {
					t.Fatalf("%s\nEncode(%d, %s, %s): %x, %d, Size %d, %d", plain.text(), way, name, show(m), b, e, n, f)
				}
				answers[i] = e
			}
			want := api.ErrValue
			if plain[name] == nil {
				want = api.ErrType
			} else if plain.such(plain[name], m, 1) {
				want = api.OK
			}
			seen[want]++
			if answers != [2]api.Errno{want, want} {
				t.Fatalf("%s\nEncode(%s, %s): %v, want %d", plain.text(), name, show(m), answers, want)
			}
		}
	}
	if seen[api.OK] < 100 || seen[api.ErrValue] < 1000 || seen[api.ErrType] < 100 {
		t.Errorf("seen %v", seen)
	}
}
