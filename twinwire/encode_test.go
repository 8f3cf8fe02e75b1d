package twinwire_test

import (
	"strings"
	"testing"

	"twinwire/api"
	"twinwire/twinwire"
)

func TestP6Examples(t *testing.T) {
	s := mustParse(t, exampleSchema)
	wantWrittenHex(t, s, "A", msg(), "")
	wantWrittenHex(t, s, "A", api.Msg{Fields: []api.Field{}}, "")
	wantWrittenHex(t, s, "A", msg(field(1, num(150)), field(2, num(1), num(-1)), field(3, text(""))), "08 96 01 12 02 02 01 1a 00")
	wantWrittenHex(t, s, "A", msg(field(4, pair(text(""), sub()))), "22 04 0a 00 12 00")
	wantWrittenHex(t, s, "A", api.Msg{Fields: []api.Field{field(1, num(-1)), field(2, num(-2))}, Unknown: "\x30\x07"}, "08 ff ff ff ff ff ff ff ff ff 01 12 01 03 30 07")
}

func TestP6WaysAndTypes(t *testing.T) {
	s := mustParse(t, "message A { map<bool, A> m = 1; } enum E { }")
	for _, m := range []api.Msg{msg(), msg(field(1)), unknown("\x00")} {
		for _, way := range []int{0, 3, -1, 1 << 40} {
			for _, name := range []string{"A", "B"} {
				wantRefused(t, s, way, name, m, api.ErrWay)
			}
		}
		for _, way := range bothWays {
			for _, name := range []string{"B", "E", "", "a", "A ", "bool", "m"} {
				wantRefused(t, s, way, name, m, api.ErrType)
			}
		}
	}
	wantWritten(t, s, "A", msg(), "")
}

func TestP1EncodeOfNil(t *testing.T) {
	var none *twinwire.Schema
	for way := -1; way < 4; way++ {
		wantRefused(t, none, way, "A", msg(), api.ErrNil)
		wantRefused(t, none, way, "", msg(field(1)), api.ErrNil)
	}
}

// numbers: of each type, numbers and their bytes behind a tag; and numbers that are none of the type.
var numbers = []struct {
	word, kind string
	good       map[int]string
	bad        []int
}{
	{"int32", "0", map[int]string{1: "01", 127: "7f", 128: "80 01", 1<<31 - 1: "ff ff ff ff 07", -1: "ff ff ff ff ff ff ff ff ff 01", -1 << 31: "80 80 80 80 f8 ff ff ff ff 01"}, []int{1 << 31, 1<<32 - 1, 1 << 32, -1<<31 - 1, 1<<63 - 1, -1 << 63}},
	{"int64", "0", map[int]string{1: "01", 16383: "ff 7f", 16384: "80 80 01", 1<<63 - 1: "ff ff ff ff ff ff ff ff 7f", -1: "ff ff ff ff ff ff ff ff ff 01", -1 << 63: "80 80 80 80 80 80 80 80 80 01"}, nil},
	{"uint32", "0", map[int]string{1: "01", 1 << 31: "80 80 80 80 08", 1<<32 - 1: "ff ff ff ff 0f"}, []int{1 << 32, -1, -1 << 31, -1 << 63}},
	{"uint64", "0", map[int]string{1: "01", 1<<35 - 1: "ff ff ff ff 7f", 1 << 35: "80 80 80 80 80 01", -1: "ff ff ff ff ff ff ff ff ff 01"}, nil},
	{"sint32", "0", map[int]string{1: "02", -1: "01", -2: "03", 64: "80 01", -64: "7f", 1<<31 - 1: "fe ff ff ff 0f", -1 << 31: "ff ff ff ff 0f"}, []int{1 << 31, 1<<32 - 1, 1 << 32, -1<<31 - 1, -1 << 63}},
	{"sint64", "0", map[int]string{1: "02", -1: "01", -2: "03", 1 << 31: "80 80 80 80 10", 1<<63 - 1: "fe ff ff ff ff ff ff ff ff 01", -1 << 63: "ff ff ff ff ff ff ff ff ff 01"}, nil},
	{"bool", "0", map[int]string{1: "01"}, []int{2, 3, 256, 1 << 32, -1}},
	{"E", "0", map[int]string{1: "01", 99: "63", -1: "ff ff ff ff ff ff ff ff ff 01", 1<<31 - 1: "ff ff ff ff 07", -1 << 31: "80 80 80 80 f8 ff ff ff ff 01"}, []int{1 << 31, 1<<32 - 1, 1 << 32, -1<<31 - 1}},
	{"fixed32", "5", map[int]string{1: "01 00 00 00", 0x84030201: "01 02 03 84", 1<<32 - 1: "ff ff ff ff"}, []int{1 << 32, -1, -1 << 31}},
	{"sfixed32", "5", map[int]string{1: "01 00 00 00", -2: "fe ff ff ff", 1<<31 - 1: "ff ff ff 7f", -1 << 31: "00 00 00 80"}, []int{1 << 31, 1<<32 - 1, 1 << 32, -1<<31 - 1}},
	{"float", "5", map[int]string{0x3f800000: "00 00 80 3f", 1 << 31: "00 00 00 80", 1<<32 - 1: "ff ff ff ff"}, []int{1 << 32, -1, -1 << 31}},
	{"fixed64", "1", map[int]string{0x0807060504030201: "01 02 03 04 05 06 07 08", -1: "ff ff ff ff ff ff ff ff"}, nil},
	{"sfixed64", "1", map[int]string{-2: "fe ff ff ff ff ff ff ff", -1 << 63: "00 00 00 00 00 00 00 80"}, nil},
	{"double", "1", map[int]string{0x3ff0000000000000: "00 00 00 00 00 00 f0 3f", -1 << 63: "00 00 00 00 00 00 00 80"}, nil},
}

const numbersMessage = "message A { WORD a=1; optional WORD b=2; repeated WORD c=3; oneof o { WORD d=4; } map<bool, WORD> e=5; } enum E { }"

func TestP6Numbers(t *testing.T) {
	for _, c := range numbers {
		s := mustParse(t, strings.ReplaceAll(numbersMessage, "WORD", c.word))
		tag := map[string][]string{"0": {"08", "10", "20"}, "1": {"09", "11", "21"}, "5": {"0d", "15", "25"}}[c.kind]
		zero := zeros[c.kind][0]
		for n, digits := range c.good {
			v := num(n)
			wantWrittenHex(t, s, "A", msg(field(1, v)), tag[0]+digits)
			wantWrittenHex(t, s, "A", msg(field(2, v)), tag[1]+digits)
			wantWritten(t, s, "A", msg(field(3, v)), long(t, 3, unhex(t, digits)))
			wantWritten(t, s, "A", msg(field(3, v, num(0), v)), long(t, 3, unhex(t, digits+zero+digits)))
			wantWrittenHex(t, s, "A", msg(field(4, v)), tag[2]+digits)
			wantWritten(t, s, "A", msg(field(5, pair(num(1), v))), long(t, 5, unhex(t, "08 01"+tag[1]+digits)))
		}
		wantWrittenHex(t, s, "A", msg(field(2, num(0)), field(4, num(0))), tag[1]+zero+tag[2]+zero)
		wantWritten(t, s, "A", msg(field(3, num(0))), long(t, 3, unhex(t, zero)))
		wantWritten(t, s, "A", msg(field(5, pair(num(0), num(0)))), long(t, 5, unhex(t, "08 00"+tag[1]+zero)))
		wantNotSuch(t, s, "A", msg(field(1, num(0))))
		for _, n := range c.bad {
			v := num(n)
			wantNotSuch(t, s, "A", msg(field(1, v)), msg(field(2, v)), msg(field(3, v)), msg(field(3, num(1), v)), msg(field(3, v, num(1))), msg(field(4, v)), msg(field(5, pair(num(0), v))))
		}
	}
}

func TestP6Keys(t *testing.T) {
	for _, c := range numbers {
		if c.word == "E" || c.word == "float" || c.word == "double" {
			continue
		}
		s := mustParse(t, "message A { map<"+c.word+", bytes> a=1; }")
		tag := map[string]string{"0": "08", "1": "09", "5": "0d"}[c.kind]
		for n, digits := range c.good {
			wantWritten(t, s, "A", msg(field(1, pair(num(n), text("v")))), long(t, 1, unhex(t, tag+digits+"12 01")+"v"))
		}
		wantWritten(t, s, "A", msg(field(1, pair(num(0), text("v")))), long(t, 1, unhex(t, tag+zeros[c.kind][0]+"12 01")+"v"))
		for _, n := range c.bad {
			wantNotSuch(t, s, "A", msg(field(1, pair(num(n), text("v")))))
		}
	}
}

func TestP6Texts(t *testing.T) {
	s := mustParse(t, "message A { string a=1; bytes b=2; optional string c=3; optional bytes d=4; repeated string e=5; repeated bytes f=6; oneof o { string g=7; bytes h=8; } map<string, string> i=9; map<string, bytes> j=10; }")
	wantWrittenHex(t, s, "A", msg(field(1, text("\u00e9")), field(2, text("\xff"))), "0a 02 c3 a9 12 01 ff")
	wantWrittenHex(t, s, "A", msg(field(3, text("")), field(4, text("")), field(7, text(""))), "1a 00 22 00 3a 00")
	wantWrittenHex(t, s, "A", msg(field(3, text("a")), field(4, text("\x80")), field(8, text("\xc3"))), "1a 01 61 22 01 80 42 01 c3")
	wantWrittenHex(t, s, "A", msg(field(5, text(""), text("a"), text("")), field(6, text("\xfe"), text(""))), "2a 00 2a 01 61 2a 00 32 01 fe 32 00")
	wantWrittenHex(t, s, "A", msg(field(9, pair(text(""), text("x"))), field(10, pair(text("k"), text("\xff")))), "4a 05 0a 00 12 01 78 52 06 0a 01 6b 12 01 ff")
	wantWrittenHex(t, s, "A", msg(field(1, text("\x00"))), "0a 01 00")
	for _, n := range []int{127, 128, 16383, 16384} {
		lengths := map[int]string{127: "7f", 128: "80 01", 16383: "ff 7f", 16384: "80 80 01"}
		x := strings.Repeat("x", n)
		wantWritten(t, s, "A", msg(field(1, text(x))), unhex(t, "0a"+lengths[n])+x)
	}
	wantNotSuch(t, s, "A", msg(field(1, text(""))), msg(field(2, text(""))))
	for _, bad := range []string{"\xff", "a\xc3", "\xed\xa0\x80", "\xf4\x90\x80\x80", "\xc0\x80"} {
		v := text(bad)
		wantNotSuch(t, s, "A", msg(field(1, v)), msg(field(3, v)), msg(field(5, v)), msg(field(5, text("a"), v)), msg(field(5, v, text("a"))), msg(field(7, v)))
		wantNotSuch(t, s, "A", msg(field(9, pair(v, text("")))), msg(field(9, pair(text(""), v))), msg(field(10, pair(v, text("")))))
		wantWritten(t, s, "A", msg(field(2, v)), long(t, 2, bad))
	}
}

func TestP6RepeatedFields(t *testing.T) {
	s := mustParse(t, "message A { repeated int32 a=1; repeated fixed64 b=2; repeated E c=3; repeated bool d=4; repeated string e=5; repeated A f=6; repeated int64 g=2048; } enum E { }")
	wantWrittenHex(t, s, "A", msg(field(1, num(0))), "0a 01 00")
	wantWrittenHex(t, s, "A", msg(field(1, num(3), num(270), num(-1))), "0a 0d 03 8e 02 ff ff ff ff ff ff ff ff ff 01")
	wantWrittenHex(t, s, "A", msg(field(2, num(1), num(0))), "12 10 01 00 00 00 00 00 00 00 00 00 00 00 00 00 00 00")
	wantWrittenHex(t, s, "A", msg(field(3, num(1), num(0), num(1)), field(4, num(1), num(0), num(1))), "1a 03 01 00 01 22 03 01 00 01")
	wantWrittenHex(t, s, "A", msg(field(5, text("b"), text("a"), text("b"))), "2a 01 62 2a 01 61 2a 01 62")
	wantWrittenHex(t, s, "A", msg(field(6, sub(), sub(field(1, num(5))), sub())), "32 00 32 03 0a 01 05 32 00")
	wantWrittenHex(t, s, "A", msg(field(2048, num(1), num(2))), "82 80 01 02 01 02")
	many := make([]api.Value, 128)
	wantWritten(t, s, "A", msg(field(1, many...)), "\x0a\x80\x01"+strings.Repeat("\x00", 128))
	wantWritten(t, s, "A", msg(field(6, many...)), strings.Repeat("\x32\x00", 128))
	for number := 1; number < 7; number++ {
		wantNotSuch(t, s, "A", msg(field(number)), msg(api.Field{Number: number, Values: []api.Value{}}))
	}
}

func TestP6Tags(t *testing.T) {
	s := mustParse(t, "message A { bool a=1; bool b=15; bool c=16; bool d=2047; bool e=2048; bool f=262143; bool g=262144; bool h=33554431; bool i=33554432; bool j=536870911; fixed32 k=536870910; A l=536870909; }")
	for number, digits := range map[int]string{1: "08", 15: "78", 16: "80 01", 2047: "f8 7f", 2048: "80 80 01", 262143: "f8 ff 7f", 262144: "80 80 80 01", 33554431: "f8 ff ff 7f", 33554432: "80 80 80 80 01", 536870911: "f8 ff ff ff 0f"} {
		wantWrittenHex(t, s, "A", msg(field(number, num(1))), digits+"01")
	}
	wantWrittenHex(t, s, "A", msg(field(536870909, sub()), field(536870910, num(1))), "ea ff ff ff 0f 00 f5 ff ff ff 0f 01 00 00 00")
}

func TestP6FieldsOfTheTypeByRisingNumbers(t *testing.T) {
	s := mustParse(t, "message A { int32 c=7; int32 a=2; repeated int32 b=5; B d=9; } message B { int32 a=3; }")
	wantWrittenHex(t, s, "A", msg(field(2, num(1)), field(5, num(2)), field(7, num(3)), field(9, sub(field(3, num(4))))), "10 01 2a 01 02 38 03 4a 02 18 04")
	wantNotSuch(t, s, "A", msg(field(5, num(2)), field(2, num(1))), msg(field(7, num(3)), field(2, num(1))), msg(field(2, num(1)), field(7, num(1)), field(5, num(1))))
	wantNotSuch(t, s, "A", msg(field(2, num(1)), field(2, num(1))), msg(field(5, num(1)), field(5, num(2))))
	for _, number := range []int{1, 3, 4, 6, 8, 10, 0, -2, 1 << 40, -1 << 63, 2 + 1<<32} {
		wantNotSuch(t, s, "A", msg(field(number, num(1))), msg(field(number)), msg(field(2, num(1)), field(number, num(1))))
	}
	wantNotSuch(t, s, "A", msg(field(9, sub(field(2, num(1))))), msg(field(9, sub(field(3, num(0))))), msg(field(9, sub(field(3)))))
	wantNotSuch(t, s, "B", msg(field(2, num(1))))
}

func TestP6OneValue(t *testing.T) {
	s := mustParse(t, "message A { int32 a=1; optional string b=2; A c=3; optional A d=4; oneof o { bool e=5; A f=6; } map<bool,int32> g=7; string h=8; }")
	for number, v := range map[int]api.Value{1: num(1), 2: text("x"), 3: sub(), 4: sub(), 5: num(1), 6: sub(), 8: text("x")} {
		wantNotSuch(t, s, "A", msg(field(number)), msg(field(number, v, v)), msg(field(number, v, v, v)))
		wantNotSuch(t, s, "A", msg(field(3, sub(field(number, v, v)))))
	}
	wantNotSuch(t, s, "A", msg(field(7)), msg(field(7, sub(field(1, num(0), num(1)), field(2, num(0))))), msg(field(7, sub(field(1, num(0)), field(2, num(0), num(0))))), msg(field(7, sub(field(1), field(2)))))
}

func TestP6EmptyInAllElse(t *testing.T) {
	s := mustParse(t, "message A { int32 a=1; string b=2; A c=3; repeated fixed64 d=4; repeated bytes e=5; repeated A f=6; optional bool g=7; oneof o { E h=8; bytes i=9; A j=10; } map<int32,string> k=11; map<string,A> l=12; } enum E { }")
	inner, some := msg(field(1, num(1))), unknown("\xa0\x06\x01")
	ofNumber := []api.Value{{N: 1, S: "x"}, {S: "x"}, {N: 1, M: inner}, {N: 1, M: some}, {M: inner}}
	ofText := []api.Value{{S: "x", N: 1}, {N: 1}, {S: "x", M: inner}, {S: "x", M: some}, {M: inner}}
	ofMessage := []api.Value{{M: inner, N: 1}, {N: 1}, {M: inner, S: "x"}, {S: "x"}, {M: some, S: "x"}}
	for number, bad := range map[int][]api.Value{1: ofNumber, 2: ofText, 3: ofMessage, 4: ofNumber, 5: ofText, 6: ofMessage, 7: ofNumber, 8: ofNumber, 9: ofText, 10: ofMessage, 11: ofMessage, 12: ofMessage} {
		for _, v := range bad {
			wantNotSuch(t, s, "A", msg(field(number, v)), msg(field(3, sub(field(number, v)))))
		}
	}
	for _, v := range ofNumber {
		wantNotSuch(t, s, "A", msg(field(4, num(1), v)), msg(field(11, pair(v, text("")))))
	}
	for _, v := range ofText {
		wantNotSuch(t, s, "A", msg(field(5, text(""), v)), msg(field(11, pair(num(1), v))), msg(field(12, pair(v, sub()))))
	}
	for _, v := range ofMessage {
		wantNotSuch(t, s, "A", msg(field(6, sub(), v)), msg(field(12, pair(text(""), v))))
	}
	entry := pair(num(1), text("x"))
	wantNotSuch(t, s, "A", msg(field(11, api.Value{N: 1, M: entry.M})), msg(field(11, api.Value{S: "x", M: entry.M})))
	// lists that are empty may be nil
	none := api.Msg{Fields: []api.Field{}}
	wantWrittenHex(t, s, "A", msg(field(1, api.Value{N: 1, M: none}), field(2, api.Value{S: "x", M: none}), field(3, api.Value{M: none})), "08 01 12 01 78 1a 00")
}
