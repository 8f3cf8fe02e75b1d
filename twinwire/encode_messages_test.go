package twinwire_test

import (
	"slices"
	"testing"

	"twinwire/api"
)

func TestP6Messages(t *testing.T) {
	s := mustParse(t, "message A { A a=1; optional A b=2; repeated A c=3; oneof o { A d=4; } int32 e=5; None f=6; } message None { }")
	wantWrittenHex(t, s, "A", msg(field(1, sub())), "0a 00")
	wantWrittenHex(t, s, "A", msg(field(2, sub())), "12 00")
	wantWrittenHex(t, s, "A", msg(field(3, sub())), "1a 00")
	wantWrittenHex(t, s, "A", msg(field(4, sub())), "22 00")
	wantWrittenHex(t, s, "A", msg(field(6, sub())), "32 00")
	wantWrittenHex(t, s, "A", msg(field(1, sub(field(5, num(1)))), field(2, sub(field(1, sub(field(5, num(2)))))), field(5, num(3))), "0a 02 28 01 12 04 0a 02 28 02 28 03")
	wantWrittenHex(t, s, "A", msg(field(3, sub(field(3, sub(), sub(field(5, num(300)))), field(5, num(1))), sub())), "1a 09 1a 00 1a 03 28 ac 02 28 01 1a 00")
	long := make([]api.Value, 64)
	m := msg(field(1, sub(field(3, long...))))
	b, e := s.Encode(api.Walk, "A", m)
	if e != api.OK || len(b) != 3+128 || b[:4] != "\x0a\x80\x01\x1a" {
		t.Errorf("a message of 128 bytes: %x, %d", b, e)
	}
	wantWritten(t, s, "A", m, b)
	wantNotSuch(t, s, "A", msg(field(6, sub(field(1, num(1))))), msg(field(1, sub(field(5, num(0))))), msg(field(3, sub(), sub(field(5, num(0))))))
}

func TestP6Oneofs(t *testing.T) {
	s := mustParse(t, "message A { oneof o { int32 a=1; A b=3; string c=5; E d=7; } int32 e=2; oneof p { bool f=4; fixed32 g=6; } A h=8; } enum E { }")
	first := []api.Field{field(1, num(0)), field(3, sub()), field(5, text("")), field(7, num(0))}
	second := []api.Field{field(4, num(0)), field(6, num(0))}
	for i, f := range first {
		wantWrittenHex(t, s, "A", msg(f), []string{"08 00", "1a 00", "2a 00", "38 00"}[i])
		for _, g := range first[:i] {
			wantNotSuch(t, s, "A", msg(g, f), msg(field(8, sub(g, f))))
		}
		for _, g := range second {
			both := []api.Field{f, g}
			slices.SortFunc(both, func(a, b api.Field) int { return a.Number - b.Number })
			for _, way := range bothWays {
				if _, e := s.Encode(way, "A", msg(both...)); e != api.OK {
					t.Errorf("fields of two oneofs, %d and %d: %d", f.Number, g.Number, e)
				}
			}
		}
	}
	wantNotSuch(t, s, "A", msg(second...), msg(field(1, num(1)), field(2, num(1)), field(7, num(1))))
	wantNotSuch(t, s, "A", msg(first...))
	wantWrittenHex(t, s, "A", msg(field(2, num(1)), field(4, num(0)), field(5, text("x"))), "10 01 20 00 2a 01 78")
	// what is in a field of a oneof has oneofs of its own
	wantWrittenHex(t, s, "A", msg(field(3, sub(field(1, num(0)))), field(8, sub(field(5, text(""))))), "1a 02 08 00 42 02 2a 00")
}

func TestP6Maps(t *testing.T) {
	s := mustParse(t, "message A { map<int32,string> a=1; map<string,A> b=2; map<bool,E> c=3; map<fixed64,double> d=4; } enum E { }")
	wantWrittenHex(t, s, "A", msg(field(1, pair(num(1), text("x")))), "0a 05 08 01 12 01 78")
	wantWrittenHex(t, s, "A", msg(field(1, pair(num(0), text("")))), "0a 04 08 00 12 00")
	wantWrittenHex(t, s, "A", msg(field(1, pair(num(-1), text("n")), pair(num(0), text("")), pair(num(2), text("b")))), "0a 0e 08 ff ff ff ff ff ff ff ff ff 01 12 01 6e 0a 04 08 00 12 00 0a 05 08 02 12 01 62")
	wantWrittenHex(t, s, "A", msg(field(2, pair(text("a"), sub(field(3, pair(num(1), num(0))))), pair(text("b"), sub()))), "12 0b 0a 01 61 12 06 1a 04 08 01 10 00 12 05 0a 01 62 12 00")
	wantWrittenHex(t, s, "A", msg(field(3, pair(num(0), num(-1)), pair(num(1), num(0)))), "1a 0d 08 00 10 ff ff ff ff ff ff ff ff ff 01 1a 04 08 01 10 00")
	wantWrittenHex(t, s, "A", msg(field(4, pair(num(1), num(0)))), "22 12 09 01 00 00 00 00 00 00 00 11 00 00 00 00 00 00 00 00")
	kept := api.Value{M: unknown("\x78\x01")}
	wantWrittenHex(t, s, "A", msg(field(2, pair(text(""), kept))), "12 06 0a 00 12 02 78 01")
}

func TestP6EntriesThatAreNotSuch(t *testing.T) {
	s := mustParse(t, "message A { map<int32,string> a=1; map<string,A> b=2; A c=3; }")
	key, value := field(1, num(1)), field(2, text("x"))
	wantNotSuch(t, s, "A", msg(field(1, sub(key))), msg(field(1, sub(value))), msg(field(1, sub())), msg(field(1, pair(num(0), text("")), sub(key))), msg(field(1, sub(key), pair(num(2), text("")))))
	wantNotSuch(t, s, "A", msg(field(1, sub(value, key))), msg(field(1, sub(key, key))), msg(field(1, sub(value, value))), msg(field(1, sub(key, value, value))), msg(field(1, sub(key, value, field(3, num(1))))), msg(field(1, sub(key, field(3, text("x"))))), msg(field(1, sub(field(0, num(1)), value))))
	wantNotSuch(t, s, "A", msg(field(1, pair(text("x"), num(1)))), msg(field(1, pair(num(1), num(1)))), msg(field(1, pair(num(1), sub()), pair(num(1), sub()))))
	wantNotSuch(t, s, "A", msg(field(2, pair(text("x"), text("x")))), msg(field(2, pair(num(1), sub()))), msg(field(2, pair(text("x"), sub(field(1))))), msg(field(2, pair(text("x"), sub(field(4, num(1)))))))
	for _, records := range []string{"\x18\x01", "\x78\x01", "\x08", "\x08\x01", "\x12\x00"} {
		entry := api.Value{M: api.Msg{Fields: []api.Field{key, value}, Unknown: records}}
		wantNotSuch(t, s, "A", msg(field(1, entry)), msg(field(1, pair(num(0), text("")), entry)), msg(field(1, entry, pair(num(2), text("")))), msg(field(3, sub(field(1, entry)))))
	}
	wantNotSuch(t, s, "A", msg(field(2, pair(text(""), api.Value{M: unknown("\x08")}))), msg(field(2, pair(text(""), api.Value{M: unknown("\x0a\x00")}))))
}

func TestP6KeysRise(t *testing.T) {
	for word, rising := range map[string][]api.Value{
		"int32":    {num(-1 << 31), num(-2), num(-1), num(0), num(1), num(1<<31 - 1)},
		"int64":    {num(-1 << 63), num(-1 << 32), num(-1), num(0), num(1), num(1<<63 - 1)},
		"sint32":   {num(-1 << 31), num(-2), num(-1), num(0), num(1), num(1<<31 - 1)},
		"sint64":   {num(-1 << 63), num(-2), num(-1), num(0), num(1), num(1<<63 - 1)},
		"sfixed32": {num(-1 << 31), num(-2), num(-1), num(0), num(1), num(1<<31 - 1)},
		"sfixed64": {num(-1 << 63), num(-2), num(-1), num(0), num(1), num(1<<63 - 1)},
		"uint32":   {num(0), num(1), num(1 << 31), num(1<<32 - 1)},
		"uint64":   {num(0), num(1), num(1<<63 - 1), num(-1 << 63), num(-1)},
		"fixed32":  {num(0), num(1), num(1 << 31), num(1<<32 - 1)},
		"fixed64":  {num(0), num(1), num(1<<63 - 1), num(-1 << 63), num(-1)},
		"bool":     {num(0), num(1)},
		"string":   {text(""), text("\x00"), text("B"), text("a"), text("aa"), text("ab"), text("b"), text("\u00e9"), text("\ufffd"), text("\U00010000")},
	} {
		s := mustParse(t, "message A { map<"+word+",A> m=1; }")
		var all []api.Value
		for i, k := range rising {
			all = append(all, pair(k, sub()))
			other := sub(field(1, pair(k, sub())))
			wantNotSuch(t, s, "A", msg(field(1, pair(k, sub()), pair(k, sub()))), msg(field(1, pair(k, sub()), pair(k, other))))
			for _, lower := range rising[:i] {
				wantNotSuch(t, s, "A", msg(field(1, pair(k, sub()), pair(lower, sub()))), msg(field(1, pair(lower, sub()), pair(k, sub()), pair(lower, sub()))))
			}
		}
		for _, way := range bothWays {
			b, e := s.Encode(way, "A", msg(field(1, all...)))
			if e != api.OK {
				t.Errorf("%s: keys that rise: %d", word, e)
			}
			wantRead(t, s, "A", b, show(msg(field(1, all...))))
		}
	}
}

func TestP6Deep(t *testing.T) {
	s := mustParse(t, "message A { A a=1; optional A b=2; repeated A c=3; oneof o { A d=4; } int32 e=5; map<int32,int32> f=6; map<int32,A> g=7; map<int32,None> h=8; } message None { }")
	for number := 1; number < 5; number++ {
		for times := range api.MaxDeep {
			wantWritten(t, s, "A", within(number, times, msg(field(5, num(1)))), nested(t, number, times, "\x28\x01"))
		}
		for times := api.MaxDeep; times < api.MaxDeep+4; times++ {
			wantNotSuch(t, s, "A", within(number, times, msg()), within(number, times, msg(field(5, num(1)))), within(number, times, unknown("\x78\x01")))
		}
	}
	deepest := api.MaxDeep - 2 // times, so that an entry is as deep as can be
	plain := msg(field(6, pair(num(0), num(0))))
	wantWritten(t, s, "A", within(1, deepest, plain), nested(t, 1, deepest, "\x32\x04\x08\x00\x10\x00"))
	wantNotSuch(t, s, "A", within(1, deepest+1, plain))
	for _, number := range []int{7, 8} {
		of := msg(field(number, pair(num(0), sub())))
		wantWritten(t, s, "A", within(1, deepest-1, of), nested(t, 1, deepest-1, long(t, number, "\x08\x00\x12\x00")))
		wantNotSuch(t, s, "A", within(1, deepest, of), within(1, deepest+1, of))
		// an entry that lacks its message is not such in any case
		lacking := msg(field(number, sub(field(1, num(0)))))
		wantNotSuch(t, s, "A", within(1, deepest, lacking), within(1, deepest-1, lacking))
	}
	entries := func(times int, innermost api.Msg) api.Msg {
		for range times {
			innermost = msg(field(7, pair(num(0), api.Value{M: innermost})))
		}
		return innermost
	}
	for _, way := range bothWays {
		for _, innermost := range []api.Msg{msg(), plain, within(1, 1, msg())} {
			b, e := s.Encode(way, "A", entries(3, innermost))
			if e != api.OK {
				t.Errorf("entries seven deep: %d", e)
			}
			wantWritten(t, s, "A", entries(3, innermost), b)
		}
	}
	wantNotSuch(t, s, "A", entries(4, msg()), entries(3, within(1, 2, msg())), entries(3, within(1, 1, plain)))
	// not the first value, but a later one
	wantNotSuch(t, s, "A", msg(field(3, sub(), api.Value{M: within(3, api.MaxDeep-1, msg())})))
}

// Lists that lead back to themselves are too deep.
func TestP1EncodeOfListsInThemselves(t *testing.T) {
	s := mustParse(t, "message A { A a=1; repeated A b=2; map<int32,A> c=3; int32 d=4; bytes e=5; }")
	for number := 1; number < 6; number++ {
		fields := []api.Field{field(number, sub())}
		fields[0].Values[0].M.Fields = fields
		wantEndless(t, s, fields)
	}
	wide := []api.Field{field(2, make([]api.Value, 1000)...)}
	for i := range wide[0].Values {
		wide[0].Values[i].M.Fields = wide
	}
	wantEndless(t, s, wide)
	entries := []api.Field{field(3, pair(num(0), sub()))}
	entries[0].Values[0].M.Fields[1].Values[0].M.Fields = entries
	wantEndless(t, s, entries)
}

func TestP6UnknownRecords(t *testing.T) {
	s := mustParse(t, "message A { int32 a=1; repeated fixed32 b=2; string c=3; A d=4; repeated string e=5; map<int32,int32> f=6; repeated sint64 g=7; oneof o { double h=8; } } message None { }")
	for _, digits := range []string{
		"78 01", "79 01 02 03 04 05 06 07 08", "7a 00", "7a 03 01 02 03", "7d 01 02 03 04", "f8 ff ff ff 0f 00",
		"78 81 00", "f8 80 00 01", "7a 81 00 00", "78 ff ff ff ff ff ff ff ff ff 01", // longer than they need be
		"7a 02 08 01", "7a 01 ff", "7a 01 00", // what is within is not looked at
		"09 01 02 03 04 05 06 07 08", "0a 01 01", "0d 01 02 03 04", "10 01", "11 01 02 03 04 05 06 07 08", "18 01", "1d 01 02 03 04", "20 01", "28 01", "2d 01 02 03 04", "30 01", "39 01 02 03 04 05 06 07 08", "3d 01 02 03 04", "40 01", "42 00", "45 01 02 03 04", // fields, but kinds that do not fit
		"78 01 7a 01 61 0a 00 78 01",
	} {
		b := unhex(t, digits)
		wantWritten(t, s, "A", unknown(b), b)
		wantWritten(t, s, "None", unknown(b), b)
		wantWritten(t, s, "A", api.Msg{Fields: []api.Field{field(1, num(1)), field(8, num(0))}, Unknown: b}, "\x08\x01\x41\x00\x00\x00\x00\x00\x00\x00\x00"+b)
		wantWritten(t, s, "A", within(4, 2, unknown(b)), nested(t, 4, 2, b))
		wantNotSuch(t, s, "A", msg(field(1, api.Value{N: 1, M: unknown(b)})))
	}
	for _, digits := range []string{
		"08 01", "08 00", "88 00 01", "10", "15 01 02 03 04", "12 00", "12 04 01 02 03 04", "12 01 00", "1a 00", "1a 01 ff", "22 00", "22 01 00", "2a 00", "32 00", "38 01", "3a 00", "3a 01 80", "41 01 02 03 04 05 06 07 08", // they fit, be they right or wrong
		"00", "07", "f8 ff ff ff 1f", "80 80 80 80 10", "7b", "7c", "7e", "7f", "80", "f8", "78", "78 80", "79 01 02 03 04 05 06 07", "7d 01 02 03", "7a", "7a 01", "7a 02 61", "7a 80", "78 80 80 80 80 80 80 80 80 80 02", "80 80 80 80 80 80 80 80 80 02", "7a ff ff ff ff ff ff ff ff ff 01",
	} {
		b := unhex(t, digits)
		wantNotSuch(t, s, "A", unknown(b), unknown("\x78\x01"+b), within(4, 2, unknown(b)), api.Msg{Fields: []api.Field{field(1, num(1))}, Unknown: b})
	}
	wantNotSuch(t, s, "A", unknown("\x08\x01\x78\x01"), unknown("\x78\x01\x08\x01\x78\x01"))
	// nothing fits a field of a message that has none
	wantWritten(t, s, "None", unknown("\x08\x01\x12\x00"), "\x08\x01\x12\x00")
}
