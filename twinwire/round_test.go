package twinwire_test

import (
	"math/rand/v2"
	"slices"
	"testing"

	"twinwire/api"
	"twinwire/twinwire"
)

const roundSchema = `message A { int32 a=1; optional string b=2; repeated sint64 c=3; A d=4; repeated A e=5; map<string,A> f=6;
map<int32,bool> g=7; oneof o { string h=8; A i=9; fixed32 j=10; } E k=11; bytes l=12; } enum E { }`

// roundBytes are of messages of roundSchema, many of them not as they are written.
var roundBytes = []string{
	"", "08 01", "08 81 80 80 80 10", "88 80 00 83 00", "08 05 08 00", "12 00", "12 01 61 12 00", "18 01 18 02", "1a 00", "1a 02 01 02 18 03 1a 01 04",
	"22 00", "22 02 08 01 22 02 18 01", "2a 00 2a 02 08 01", "32 00", "32 03 0a 01 62 32 03 0a 01 61 32 07 0a 01 62 12 02 08 7a", "3a 02 10 02 3a 02 08 7f",
	"42 00", "42 01 61 4a 00", "4a 02 08 01 4a 03 12 01 61", "55 00 00 00 00 42 00", "58 ff ff ff ff 0f", "62 01 ff 62 00",
	"78 01", "78 01 08 01 78 02", "0a 00 15 01 02 03 04", "22 02 78 01 22 05 08 01 7a 01 ff", "2a 02 78 01 2a 00 2a 02 78 02", "32 04 12 02 78 01", "4a 02 78 01 4a 02 78 02", "7a 81 00 00",
}

// mustRead asks in both ways.
func mustRead(t *testing.T, s *twinwire.Schema, name, b string) api.Msg {
	t.Helper()
	m, e, at := s.Decode(api.Walk, name, b)
	if e != api.OK {
		t.Fatalf("Decode(%s, %x): %d at %d", name, b, e, at)
	}
	wantRead(t, s, name, b, show(m))
	return m
}

// mustWrite asks in both ways.
func mustWrite(t *testing.T, s *twinwire.Schema, name string, m api.Msg) string {
	t.Helper()
	b, e := s.Encode(api.Walk, name, m)
	if e != api.OK {
		t.Fatalf("Encode(%s, %s): %d", name, show(m), e)
	}
	wantWritten(t, s, name, m, b)
	return b
}

func TestP7WhatIsWrittenIsRead(t *testing.T) {
	s := mustParse(t, roundSchema)
	inner := msg(field(1, num(-1)), field(2, text("")), field(3, num(0), num(-1<<63)), field(9, sub()), field(12, text("\xff")))
	inner.Unknown = "\x0d1234\x7a\x02\x08\x01"
	entries := []api.Value{pair(text(""), sub()), pair(text("a"), api.Value{M: inner}), pair(text("b"), sub(field(4, sub())))}
	for _, m := range []api.Msg{
		msg(), inner, within(4, api.MaxDeep-2, inner), within(4, api.MaxDeep-1, msg()), unknown("\x78\x81\x00"),
		msg(field(4, api.Value{M: inner}), field(5, api.Value{M: inner}, sub(), api.Value{M: inner}), field(6, entries...), field(7, pair(num(-5), num(0)), pair(num(5), num(1))), field(8, text("")), field(11, num(-1<<31))),
		within(4, api.MaxDeep-2, msg(field(7, pair(num(0), num(0))))), within(4, api.MaxDeep-3, msg(field(6, pair(text(""), sub())))),
	} {
		for _, written := range bothWays {
			b, e := s.Encode(written, "A", m)
			if e != api.OK {
				t.Errorf("Encode(%d, A, %s): %d", written, show(m), e)
			}
			wantRead(t, s, "A", b, show(m))
		}
	}
}

func TestP8WhatIsReadIsSuch(t *testing.T) {
	s := mustParse(t, roundSchema)
	for _, digits := range roundBytes {
		mustWrite(t, s, "A", mustRead(t, s, "A", unhex(t, digits)))
	}
	deep := nested(t, 4, api.MaxDeep-1, "\x08\x01\x78\x01")
	mustWrite(t, s, "A", mustRead(t, s, "A", deep))
	mustWrite(t, s, "A", mustRead(t, s, "A", nested(t, 4, api.MaxDeep-2, "\x3a\x00")))
	mustWrite(t, s, "A", mustRead(t, s, "A", nested(t, 4, api.MaxDeep-3, "\x32\x00")))
}

func TestP8NoUnknownRecordIsLost(t *testing.T) {
	s := mustParse(t, roundSchema)
	for digits, want := range map[string]string{
		"78 01 08 01 78 02 7a 01 61 08 02":                "08 02 78 01 78 02 7a 01 61",
		"22 02 78 01 78 02 22 04 08 01 78 03":             "22 06 08 01 78 01 78 03 78 02",
		"2a 02 78 01 2a 02 78 02":                         "2a 02 78 01 2a 02 78 02",
		"32 06 12 02 78 01 12 00":                         "32 06 0a 00 12 02 78 01",
		"4a 02 78 01 4a 02 78 02":                         "4a 04 78 01 78 02",
		"0a 01 01 12 01 61 10 01 18 02 1d 01 02 03 04":    "12 01 61 1a 01 02 0a 01 01 10 01 1d 01 02 03 04",
		"32 08 78 01 12 02 78 02 78 03 78 04":             "32 06 0a 00 12 02 78 02 78 04", // in an entry
		"4a 02 78 01 42 01 61 78 02":                      "42 01 61 78 02",                // in a message that its oneof took away
		"4a 02 78 01 42 00 4a 02 78 03":                   "4a 02 78 03",
		"32 04 12 02 78 01 32 00":                         "32 04 0a 00 12 00", // in an entry that another one of its key took away
		"78 81 80 00 fa ff ff ff 0f 80 00 f8 80 80 00 01": "78 81 80 00 fa ff ff ff 0f 80 00 f8 80 80 00 01",
	} {
		wantWrittenHex(t, s, "A", mustRead(t, s, "A", unhex(t, digits)), want)
	}
}

func TestP9BytesBehindOthers(t *testing.T) {
	s := mustParse(t, roundSchema)
	for _, c := range [][3]string{
		{"08 01", "08 02", "1=2"}, {"08 01", "", "1=1"}, {"", "08 02", "1=2"}, {"08 01", "08 00", ""},
		{"12 01 61", "12 00", "2=0"}, {"1a 02 02 04", "1a 01 06", "3=1,2,3"}, {"1a 02 02 04", "18 06", "3=1,2,3"},
		{"22 02 08 01", "22 03 12 01 61", `4={1=1 2="a"}`}, {"22 02 08 01", "22 00", "4={1=1}"}, {"2a 02 08 01", "2a 02 08 02", "5={1=1},{1=2}"},
		{"3a 04 08 02 10 01", "3a 04 08 01 10 01", "7={1=1 2=1},{1=2 2=1}"}, {"3a 04 08 02 10 01", "3a 02 08 02", "7={1=2 2=0}"},
		{"32 04 12 02 08 01", "32 05 12 03 12 01 61", `6={1=0 2={2="a"}}`},
		{"42 01 61", "4a 00", "9=0"}, {"4a 02 08 01", "4a 03 12 01 61", `9={1=1 2="a"}`}, {"4a 02 08 01", "42 00", "8=0"},
		{"78 01 08 01", "78 02", "1=1 ?78017802"}, {"22 02 78 01", "22 02 78 02 78 03", "4={?78017802} ?7803"},
	} {
		wantHex(t, s, "A", c[0]+c[1], c[2])
	}
	for _, first := range roundBytes {
		for _, second := range roundBytes {
			wantMerged(t, s, roundPlain(), "A", unhex(t, first), unhex(t, second))
		}
	}
}

func roundPlain() plainSchema {
	return plainSchema{"A": {
		{1, "", "", "int32"}, {2, "optional", "", "string"}, {3, "repeated", "", "sint64"}, {4, "", "", "A"}, {5, "repeated", "", "A"}, {6, "map", "string", "A"},
		{7, "map", "int32", "bool"}, {8, "o", "", "string"}, {9, "o", "", "A"}, {10, "o", "", "fixed32"}, {11, "", "", "E"}, {12, "", "", "bytes"},
	}}
}

// wantMerged takes bytes that are read without an error, and asks what is read of both, behind each other, as they are and as they are written.
func wantMerged(t *testing.T, s *twinwire.Schema, plain plainSchema, name, first, second string) {
	t.Helper()
	x, y := mustRead(t, s, name, first), mustRead(t, s, name, second)
	again, added := mustWrite(t, s, name, x), mustWrite(t, s, name, y)
	wantRead(t, s, name, again+added, show(plain.merged(plain[name], x, y)))
	whole := show(mustRead(t, s, name, first+second))
	wantRead(t, s, name, again+second, whole)
	r := plainReader{s: plain, b: second}
	r.message(plain[name], 0, len(second), 1, &x)
	if show(x) != whole {
		t.Errorf("%x and %x: %s, want %s", first, second, whole, show(x))
	}
}

// merged is the first message with all that the second one has.
func (s plainSchema) merged(fields []plainField, first, second api.Msg) api.Msg {
	m := api.Msg{Fields: slices.Clone(first.Fields), Unknown: first.Unknown + second.Unknown}
	for _, f := range second.Fields {
		p := plainFieldOf(fields, f.Number)
		have := slices.Clone(values(&first, f.Number))
		switch p.form {
		case "repeated":
			setValues(&m, f.Number, append(have, f.Values...))
			continue
		case "map":
			setValues(&m, f.Number, mergedEntries(p.key, have, f.Values))
			continue
		case "", "optional":
		default:
			for _, o := range fields {
				if o.form == p.form {
					setValues(&m, o.number, nil)
				}
			}
		}
		if s.isMessage(p.word) && len(have) > 0 {
			setValues(&m, f.Number, []api.Value{{M: s.merged(s[p.word], have[0].M, f.Values[0].M)}})
			continue
		}
		setValues(&m, f.Number, f.Values)
	}
	return m
}

func mergedEntries(word string, first, second []api.Value) []api.Value {
	key := func(e api.Value) api.Value { return e.M.Fields[0].Values[0] }
	all := slices.Clone(second)
	for _, e := range first {
		if !slices.ContainsFunc(second, func(o api.Value) bool { return !plainBelow(word, key(e), key(o)) && !plainBelow(word, key(o), key(e)) }) {
			all = append(all, e)
		}
	}
	slices.SortFunc(all, func(a, b api.Value) int {
		if plainBelow(word, key(a), key(b)) {
			return -1
		}
		return 1
	})
	return all
}

func TestP8AndP9WithMadeBytes(t *testing.T) {
	k := maker{rand.New(rand.NewPCG(5, 6))}
	count := 0
	for range 300 {
		plain := k.schema()
		s := mustParse(t, plain.text())
		for range 10 {
			name := k.any(plain)
			first, second := string(k.message(plain, plain[name], 7)), string(k.harm(k.message(plain, plain[name], 7)))
			if _, e, _ := s.Decode(api.Walk, name, first); e != api.OK {
				continue
			}
			if _, e, at := s.Decode(api.Walk, name, second); e != api.OK {
				wantFault(t, s, name, first+second, e, at+len(first))
				continue
			}
			count++
			wantMerged(t, s, plain, name, first, second)
			if t.Failed() {
				t.Fatalf("%s, %s: %x and %x", plain.text(), name, first, second)
			}
		}
	}
	if count < 1000 {
		t.Errorf("%d pairs only", count)
	}
}

// unknownBytes is how many bytes of a message's are in unknown records; plain has no maps and no oneofs.
func (s plainSchema) unknownBytes(fields []plainField, b string) int {
	n := 0
	r := plainReader{s: s, b: b}
	for at := 0; at < len(b); {
		tag, from := r.varint(at, len(b))
		_, from, behind := r.body(int(tag%8), from, len(b))
		f := plainFieldOf(fields, int(tag/8))
		switch {
		case f == nil || int(tag%8) != r.kindOf(f.word) && (tag%8 != 2 || f.form != "repeated"):
			n += behind - at
		case s.isMessage(f.word):
			n += s.unknownBytes(s[f.word], b[from:behind])
		}
		at = behind
	}
	return n
}

func keptBytes(m api.Msg) int {
	n := len(m.Unknown)
	for _, f := range m.Fields {
		for _, v := range f.Values {
			n += keptBytes(v.M)
		}
	}
	return n
}

func TestP8NoUnknownRecordOfMadeBytesIsLost(t *testing.T) {
	k := maker{rand.New(rand.NewPCG(7, 8))}
	count := 0
	for range 500 {
		plain := k.schema()
		for _, fields := range plain {
			for i, f := range fields {
				if !slices.Contains([]string{"", "optional", "repeated"}, f.form) {
					fields[i].form = "optional"
				}
			}
		}
		s := mustParse(t, plain.text())
		b := string(k.message(plain, plain["A"], 7))
		m, e, _ := s.Decode(api.Plan, "A", b)
		if e != api.OK {
			continue
		}
		want := plain.unknownBytes(plain["A"], b)
		count += min(want, 1)
		if again := mustWrite(t, s, "A", m); keptBytes(m) != want || plain.unknownBytes(plain["A"], again) != want {
			t.Fatalf("%s: of %x: %s: %d bytes in unknown records, want %d", plain.text(), b, show(m), keptBytes(m), want)
		}
	}
	if count < 100 {
		t.Errorf("%d with unknown records only", count)
	}
}
