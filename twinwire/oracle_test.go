package twinwire_test

// The document's words on reading, once more and as plainly as can be: slow, without plans, drafts or panics. The program is held against it.

import (
	"encoding/binary"
	"maps"
	"math/rand/v2"
	"slices"
	"strconv"
	"strings"
	"testing"
	"unicode/utf8"

	"twinwire/api"
)

// plainField is a field as the text has it; form is "", "optional", "repeated", "map", or a oneof's name.
type plainField struct {
	number          int
	form, key, word string
}

// plainSchema has the fields of each message.
type plainSchema map[string][]plainField

type plainFault struct {
	e  api.Errno
	at int
}

// plainReader reads bytes; fault is what was wrong first.
type plainReader struct {
	s     plainSchema
	b     string
	fault *plainFault
}

func (r *plainReader) fail(e api.Errno, at int) {
	if r.fault == nil {
		r.fault = &plainFault{e, at}
	}
}

// varint tells a varint's value, and the place behind it.
func (r *plainReader) varint(at, end int) (uint64, int) {
	var v uint64
	for i := range 10 {
		if at+i >= end {
			r.fail(api.ErrCut, at)
			return 0, end
		}
		c := r.b[at+i]
		if i == 9 && c > 1 {
			r.fail(api.ErrVarint, at)
			return 0, end
		}
		v += uint64(c%128) << (7 * i)
		if c < 128 {
			return v, at + i + 1
		}
	}
	panic("a tenth byte of 1 at most ends it")
}

// body tells where what follows a tag begins and ends (of kind 2: behind the length), and a number of kinds 0, 1, 5.
func (r *plainReader) body(kind, at, end int) (uint64, int, int) {
	size := uint64(0)
	switch kind {
	case 0:
		v, behind := r.varint(at, end)
		return v, at, behind
	case 1:
		size = 8
	case 5:
		size = 4
	case 2:
		size, at = r.varint(at, end)
		if r.fault != nil {
			return 0, at, end
		}
	}
	if uint64(end-at) < size {
		r.fail(api.ErrCut, at)
		return 0, at, end
	}
	behind := at + int(size)
	switch kind {
	case 1:
		return binary.LittleEndian.Uint64([]byte(r.b[at:behind])), at, behind
	case 5:
		return uint64(binary.LittleEndian.Uint32([]byte(r.b[at:behind]))), at, behind
	}
	return 0, at, behind
}

func (r *plainReader) kindOf(word string) int {
	switch word {
	case "fixed32", "sfixed32", "float":
		return 5
	case "fixed64", "sfixed64", "double":
		return 1
	case "string", "bytes":
		return 2
	}
	if r.isMessage(word) {
		return 2
	}
	return 0
}

func (r *plainReader) isMessage(word string) bool {
	_, ok := r.s[word]
	return ok
}

func plainNumber(word string, v uint64) uint64 {
	half := func(v uint64) int64 {
		if v%2 == 1 {
			return -1 - int64(v/2)
		}
		return int64(v / 2)
	}
	switch word {
	case "sint32":
		return uint64(half(v % (1 << 32)))
	case "sint64":
		return uint64(half(v))
	case "bool":
		return min(v, 1)
	case "uint32":
		return v % (1 << 32)
	case "int64", "uint64", "fixed32", "fixed64", "sfixed64", "float", "double":
		return v
	}
	v %= 1 << 32
	if v >= 1<<31 {
		return v - 1<<32
	}
	return v
}

// value reads a value of kind 2 that is no message, or a number.
func (r *plainReader) value(word string, v uint64, at, behind int) api.Value {
	switch word {
	case "string":
		if !utf8.ValidString(r.b[at:behind]) {
			r.fail(api.ErrText, at)
		}
		return api.Value{S: r.b[at:behind]}
	case "bytes":
		return api.Value{S: r.b[at:behind]}
	}
	return api.Value{N: plainNumber(word, v)}
}

func values(m *api.Msg, number int) []api.Value {
	for _, f := range m.Fields {
		if f.Number == number {
			return f.Values
		}
	}
	return nil
}

// setValues takes a field away, if there are no values.
func setValues(m *api.Msg, number int, l []api.Value) {
	m.Fields = slices.DeleteFunc(m.Fields, func(f api.Field) bool { return f.Number == number })
	if len(l) > 0 {
		m.Fields = append(m.Fields, api.Field{Number: number, Values: l})
	}
	slices.SortFunc(m.Fields, func(a, b api.Field) int { return a.Number - b.Number })
}

func (r *plainReader) message(fields []plainField, at, end, deep int, m *api.Msg) {
	for at < end && r.fault == nil {
		start := at
		tag, behindTag := r.varint(at, end)
		if r.fault != nil {
			return
		}
		kind := int(tag % 8)
		if tag/8 == 0 || tag/8 > 536870911 {
			r.fail(api.ErrNumber, start)
			return
		}
		if kind != 0 && kind != 1 && kind != 2 && kind != 5 {
			r.fail(api.ErrWire, start)
			return
		}
		v, from, behind := r.body(kind, behindTag, end)
		at = behind
		if r.fault != nil {
			return
		}
		known := false
		for _, f := range fields {
			if f.number != int(tag/8) {
				continue
			}
			own := r.kindOf(f.word)
			if f.form == "map" {
				own = 2
			}
			if kind == own || kind == 2 && f.form == "repeated" {
				known = true
				r.record(fields, f, kind == own, v, from, behind, deep, m)
			}
		}
		if !known {
			m.Unknown += r.b[start:behind]
		}
	}
}

func (r *plainReader) record(fields []plainField, f plainField, alone bool, v uint64, from, behind, deep int, m *api.Msg) {
	switch f.form {
	case "", "optional", "repeated", "map":
	default:
		for _, o := range fields {
			if o.form == f.form && o.number != f.number {
				setValues(m, o.number, nil)
			}
		}
	}
	have := values(m, f.number)
	switch {
	case f.form == "map":
		r.entry(f, from, behind, deep+1, m)
	case r.isMessage(f.word):
		if deep+1 > 8 {
			r.fail(api.ErrDeep, from)
			return
		}
		if f.form == "repeated" || len(have) == 0 {
			have = append(have, api.Value{})
		}
		r.message(r.s[f.word], from, behind, deep+1, &have[len(have)-1].M)
		setValues(m, f.number, have)
	case f.form == "repeated" && !alone:
		for from < behind && r.fault == nil {
			v, _, from = r.body(r.kindOf(f.word), from, behind)
			have = append(have, r.value(f.word, v, 0, 0))
		}
		setValues(m, f.number, have)
	case f.form == "repeated":
		setValues(m, f.number, append(have, r.value(f.word, v, from, behind)))
	default:
		read := r.value(f.word, v, from, behind)
		if f.form == "" && read.N == 0 && read.S == "" {
			setValues(m, f.number, nil)
			return
		}
		setValues(m, f.number, []api.Value{read})
	}
}

func (r *plainReader) entry(f plainField, from, behind, deep int, m *api.Msg) {
	if deep > 8 || deep == 8 && r.isMessage(f.word) {
		r.fail(api.ErrDeep, from)
		return
	}
	var read api.Msg
	r.message([]plainField{{1, "optional", "", f.key}, {2, "optional", "", f.word}}, from, behind, deep, &read)
	whole := api.Msg{}
	for number := 1; number < 3; number++ {
		v := values(&read, number)
		if len(v) == 0 {
			v = []api.Value{{}}
		}
		setValues(&whole, number, v)
	}
	key := whole.Fields[0].Values[0]
	var entries []api.Value
	for _, e := range values(m, f.number) {
		if k := e.M.Fields[0].Values[0]; k.N != key.N || k.S != key.S {
			entries = append(entries, e)
		}
	}
	entries = append(entries, api.Value{M: whole})
	slices.SortFunc(entries, func(a, b api.Value) int {
		k, l := a.M.Fields[0].Values[0], b.M.Fields[0].Values[0]
		switch {
		case f.key == "string":
			return strings.Compare(k.S, l.S)
		case strings.HasPrefix(f.key, "s") || strings.HasPrefix(f.key, "int"):
			if int64(k.N) < int64(l.N) {
				return -1
			}
			return 1
		case k.N < l.N:
			return -1
		}
		return 1
	})
	setValues(m, f.number, entries)
}

func plainDecode(s plainSchema, name, b string) (api.Msg, api.Errno, int) {
	r := plainReader{s: s, b: b}
	var m api.Msg
	r.message(s[name], 0, len(b), 1, &m)
	if r.fault != nil {
		return api.Msg{}, r.fault.e, r.fault.at
	}
	return m, api.OK, 0
}

var keyWords = []string{"int32", "int64", "uint32", "uint64", "sint32", "sint64", "bool", "fixed32", "fixed64", "sfixed32", "sfixed64", "string"}

// maker makes schemas and bytes, by a source that is the same each time.
type maker struct{ *rand.Rand }

func (k maker) one(words []string) string { return words[k.IntN(len(words))] }

func (k maker) schema() plainSchema {
	s := plainSchema{}
	names := []string{"A", "B", "C"}[:1+k.IntN(3)]
	words := append(append([]string{"float", "double", "bytes", "E"}, keyWords...), names...)
	words = append(append(words, names...), names...)
	for _, name := range names {
		var fields []plainField
		numbers := k.Perm(7)
		for _, n := range numbers[:1+k.IntN(6)] {
			form := k.one([]string{"", "optional", "repeated", "map", "o", "o", "p"})
			fields = append(fields, plainField{[]int{1, 2, 3, 15, 16, 2047, 536870911}[n], form, k.one(keyWords), k.one(words)})
		}
		s[name] = fields
	}
	return s
}

func (s plainSchema) text() string {
	var t strings.Builder
	t.WriteString("enum E { }")
	for _, name := range slices.Sorted(maps.Keys(s)) {
		t.WriteString("message " + name + " {")
		oneofs := map[string]string{}
		for _, f := range s[name] {
			end := " f" + strconv.Itoa(f.number) + "=" + strconv.Itoa(f.number) + ";"
			switch f.form {
			case "map":
				t.WriteString("map<" + f.key + "," + f.word + ">" + end)
			case "", "optional", "repeated":
				t.WriteString(f.form + " " + f.word + end)
			default:
				oneofs[f.form] += f.word + end
			}
		}
		for _, oneof := range slices.Sorted(maps.Keys(oneofs)) {
			t.WriteString("oneof " + oneof + " {" + oneofs[oneof] + "}")
		}
		t.WriteString("}")
	}
	return t.String()
}

func (k maker) varint() []byte {
	v := []uint64{0, 1, 2, 3, 127, 128, 1<<31 - 1, 1 << 31, 1<<32 - 1, 1 << 32, 1<<63 + 5, 1<<64 - 1}[k.IntN(12)]
	b := binary.AppendUvarint(nil, v)
	if k.IntN(8) == 0 && len(b) < 9 {
		b[len(b)-1] |= 128
		b = append(b, 0)
	}
	return b
}

func (k maker) body(s plainSchema, f plainField, kind, room int) []byte {
	r := plainReader{s: s}
	switch kind {
	case 0:
		return k.varint()
	case 1:
		return binary.LittleEndian.AppendUint64(nil, []uint64{0, 1, 1 << 63, 1<<64 - 1}[k.IntN(4)])
	case 5:
		return binary.LittleEndian.AppendUint32(nil, []uint32{0, 1, 1 << 31, 1<<32 - 1}[k.IntN(4)])
	}
	var within []byte
	switch {
	case f.form == "map":
		within = k.message(s, []plainField{{1, "optional", "", f.key}, {2, "optional", "", f.word}}, room-1)
	case r.isMessage(f.word):
		within = k.message(s, s[f.word], room-1)
	case f.form == "repeated" && r.kindOf(f.word) != 2:
		for range k.IntN(3) {
			within = append(within, k.body(s, f, r.kindOf(f.word), room)...)
		}
	default:
		within = []byte(k.one([]string{"", "a", "b", "ab", "\u00e9", "\U0001f600", "zz"}))
		if k.IntN(40) == 0 {
			within = append(within, 0xff)
		}
	}
	return append(binary.AppendUvarint(nil, uint64(len(within))), within...)
}

func (k maker) message(s plainSchema, fields []plainField, room int) []byte {
	var b []byte
	if room < 0 {
		return b
	}
	r := plainReader{s: s}
	for range k.IntN(5) {
		f := plainField{number: 4 + k.IntN(3), word: "bytes"}
		if k.IntN(8) > 0 && len(fields) > 0 {
			f = fields[k.IntN(len(fields))]
		}
		kind := r.kindOf(f.word)
		if f.form == "map" || f.form == "repeated" && k.IntN(2) == 0 {
			kind = 2
		}
		if k.IntN(12) == 0 {
			kind = []int{0, 1, 2, 5}[k.IntN(4)]
		}
		b = binary.AppendUvarint(b, uint64(f.number*8+kind))
		b = append(b, k.body(s, f, kind, room)...)
	}
	return b
}

// harm makes some bytes wrong, or others.
func (k maker) harm(b []byte) []byte {
	b = slices.Clone(b)
	for range k.IntN(3) {
		if len(b) == 0 {
			break
		}
		at := k.IntN(len(b))
		switch k.IntN(4) {
		case 0:
			b = b[:at]
		case 1:
			b[at] = byte(k.IntN(256))
		case 2:
			b[at] ^= 1 << k.IntN(8)
		case 3:
			b = slices.Insert(b, at, byte(k.IntN(256)))
		}
	}
	return b
}

func TestP5AgainstThePlainReader(t *testing.T) {
	k := maker{rand.New(rand.NewPCG(1, 2))}
	seen := map[api.Errno]int{}
	for range 1500 {
		plain := k.schema()
		s := mustParse(t, plain.text())
		for range 20 {
			name := k.one([]string{"A", "A", "B", "C"})
			if plain[name] == nil {
				name = "A"
			}
			b := string(k.harm(k.message(plain, plain[name], 9)))
			want, wantE, wantAt := plainDecode(plain, name, b)
			seen[wantE]++
			for _, way := range bothWays {
				m, e, at := s.Decode(way, name, b)
				if show(m) != show(want) || e != wantE || at != wantAt {
					t.Fatalf("%s\nDecode(%d, %s, %x):\n%s, %d at %d, want\n%s, %d at %d", plain.text(), way, name, b, show(m), e, at, show(want), wantE, wantAt)
				}
			}
		}
	}
	for _, e := range []api.Errno{api.OK, api.ErrCut, api.ErrVarint, api.ErrNumber, api.ErrWire, api.ErrText, api.ErrDeep} {
		if seen[e] < 20 {
			t.Errorf("the error %d came up %d times only", e, seen[e])
		}
	}
}
