package twinwire_test

import (
	"strconv"
	"testing"

	"twinwire/api"
	"twinwire/twinwire"
)

const exampleSchema = "message A { int32 x = 1; repeated sint64 y = 2; optional string z = 3; map<string, A> m = 4; }"

func TestP5Examples(t *testing.T) {
	s := mustParse(t, exampleSchema)
	wantHex(t, s, "A", "", "")
	wantHex(t, s, "A", "08 01 10 03 08 ff ff ff ff 0f 30 07", "1=-1 2=-2 ?3007")
	wantHex(t, s, "A", "22 00", "4={1=0 2=0}")
	wantHex(t, s, "A", "08 96 01 12 02 02 01 1a 00", "1=150 2=1,-1 3=0")
	wantMarkedFault(t, s, "A", api.ErrCut, "0a ^", "08 ^", "12 02 ^80", "12 01 ^80")
	wantMarkedFault(t, s, "A", api.ErrNumber, "^00")
	wantMarkedFault(t, s, "A", api.ErrWire, "^0b")
	wantMarkedFault(t, s, "A", api.ErrText, "1a 01 ^ff")
	wantMarkedFault(t, s, "A", api.ErrVarint, "12 0b ^80 80 80 80 80 80 80 80 80 80 80")
}

func TestP5WaysAndTypes(t *testing.T) {
	s := mustParse(t, "message A { map<bool, A> m = 1; } enum E { }")
	for _, way := range []int{0, 3, -1, 1 << 40} {
		for _, name := range []string{"A", "B"} {
			if m, e, at := s.Decode(way, name, "\x00"); show(m) != "" || e != api.ErrWay || at != 0 {
				t.Errorf("Decode(%d, %s): %s, %d at %d", way, name, show(m), e, at)
			}
		}
	}
	for _, name := range []string{"B", "E", "", "a", "A ", "bool", "m"} {
		wantFault(t, s, name, "\x08\x00\x00", api.ErrType, 0)
	}
	wantRead(t, s, "A", "", "")
}

func TestP1DecodeOfNil(t *testing.T) {
	var none *twinwire.Schema
	for way := -1; way < 4; way++ {
		if m, e, at := none.Decode(way, "A", "\x08"); show(m) != "" || e != api.ErrNil || at != 0 {
			t.Errorf("Decode of nil, %d: %s, %d at %d", way, show(m), e, at)
		}
	}
}

// scalars: of each type, a record's bytes behind its tag, and the number that is read.
var scalars = []struct {
	word, kind string
	cases      [][2]string
}{
	{"int32", "0", [][2]string{{"05", "5"}, {"ff ff ff ff 07", "2147483647"}, {"80 80 80 80 08", "-2147483648"}, {"ff ff ff ff 0f", "-1"}, {"ff ff ff ff ff ff ff ff ff 01", "-1"}, {"81 80 80 80 70", "1"}, {"85 80 80 80 80 80 80 80 80 01", "5"}}},
	{"int64", "0", [][2]string{{"05", "5"}, {"ff ff ff ff 0f", "4294967295"}, {"ff ff ff ff ff ff ff ff ff 01", "-1"}, {"80 80 80 80 80 80 80 80 80 01", "-9223372036854775808"}}},
	{"uint32", "0", [][2]string{{"05", "5"}, {"ff ff ff ff 0f", "4294967295"}, {"ff ff ff ff ff ff ff ff ff 01", "4294967295"}, {"81 80 80 80 70", "1"}}},
	{"uint64", "0", [][2]string{{"05", "5"}, {"ff ff ff ff ff ff ff ff ff 01", "-1"}, {"81 80 80 80 10", "4294967297"}}},
	{"sint32", "0", [][2]string{{"01", "-1"}, {"02", "1"}, {"03", "-2"}, {"fe ff ff ff 0f", "2147483647"}, {"ff ff ff ff 0f", "-2147483648"}, {"ff ff ff ff ff ff ff ff ff 01", "-2147483648"}, {"83 80 80 80 70", "-2"}, {"82 80 80 80 10", "1"}}},
	{"sint64", "0", [][2]string{{"01", "-1"}, {"02", "1"}, {"03", "-2"}, {"ff ff ff ff 0f", "-2147483648"}, {"fe ff ff ff ff ff ff ff ff 01", "9223372036854775807"}, {"ff ff ff ff ff ff ff ff ff 01", "-9223372036854775808"}, {"83 80 80 80 10", "-2147483650"}}},
	{"bool", "0", [][2]string{{"01", "1"}, {"02", "1"}, {"80 80 80 80 10", "1"}, {"80 80 80 80 80 80 80 80 80 01", "1"}}},
	{"E", "0", [][2]string{{"01", "1"}, {"63", "99"}, {"ff ff ff ff 0f", "-1"}, {"81 80 80 80 70", "1"}, {"ff ff ff ff ff ff ff ff ff 01", "-1"}}},
	{"fixed32", "5", [][2]string{{"01 02 03 04", "67305985"}, {"ff ff ff ff", "4294967295"}, {"00 00 00 80", "2147483648"}}},
	{"sfixed32", "5", [][2]string{{"01 02 03 04", "67305985"}, {"fe ff ff ff", "-2"}, {"00 00 00 80", "-2147483648"}}},
	{"float", "5", [][2]string{{"00 00 80 3f", "1065353216"}, {"00 00 00 80", "2147483648"}, {"00 00 c0 ff", "4290772992"}, {"01 00 80 7f", "2139095041"}}},
	{"fixed64", "1", [][2]string{{"01 02 03 04 05 06 07 08", "578437695752307201"}, {"ff ff ff ff ff ff ff ff", "-1"}}},
	{"sfixed64", "1", [][2]string{{"fe ff ff ff ff ff ff ff", "-2"}, {"00 00 00 00 00 00 00 80", "-9223372036854775808"}}},
	{"double", "1", [][2]string{{"00 00 00 00 00 00 f0 3f", "4607182418800017408"}, {"00 00 00 00 00 00 00 80", "-9223372036854775808"}, {"01 00 00 00 00 00 f0 7f", "9218868437227405313"}}},
}

// zeros are 0 of each kind, also in more bytes than it needs.
var zeros = map[string][]string{
	"0": {"00", "80 00", "80 80 80 80 80 80 80 80 80 00"},
	"1": {"00 00 00 00 00 00 00 00"},
	"5": {"00 00 00 00"},
}

func TestP5Numbers(t *testing.T) {
	for _, c := range scalars {
		s := mustParse(t, "message A { "+c.word+" a=1; optional "+c.word+" b=2; repeated "+c.word+" c=3; oneof o { "+c.word+" d=4; } map<bool, "+c.word+"> e=5; } enum E { }")
		tag := map[string][]string{"0": {"08", "10", "18", "20"}, "1": {"09", "11", "19", "21"}, "5": {"0d", "15", "1d", "25"}}[c.kind]
		for _, v := range c.cases {
			wantHex(t, s, "A", tag[0]+v[0], "1="+v[1])
			wantHex(t, s, "A", tag[1]+v[0], "2="+v[1])
			wantHex(t, s, "A", tag[2]+v[0]+tag[2]+v[0], "3="+v[1]+","+v[1])
			wantHex(t, s, "A", tag[3]+v[0], "4="+v[1])
			value := unhex(t, v[0])
			wantRead(t, s, "A", long(t, 3, value+value+value), "3="+v[1]+","+v[1]+","+v[1])
			wantRead(t, s, "A", long(t, 5, unhex(t, tag[1])+value), "5={1=0 2="+v[1]+"}")
		}
		for _, zero := range zeros[c.kind] {
			some := c.cases[0]
			wantHex(t, s, "A", tag[0]+zero, "")
			wantHex(t, s, "A", tag[0]+some[0]+tag[0]+zero, "")
			wantHex(t, s, "A", tag[0]+zero+tag[0]+some[0], "1="+some[1])
			wantHex(t, s, "A", tag[1]+some[0]+tag[1]+zero, "2=0")
			wantHex(t, s, "A", tag[2]+zero+tag[2]+some[0], "3=0,"+some[1])
			wantHex(t, s, "A", tag[3]+zero, "4=0")
		}
	}
}

func TestP5Texts(t *testing.T) {
	s := mustParse(t, "message A { string a=1; bytes b=2; optional string c=3; optional bytes d=4; repeated string e=5; repeated bytes f=6; oneof o { string g=7; bytes h=8; } }")
	wantHex(t, s, "A", "0a 02 c3 a9 12 01 ff", `1="\u00e9" 2="\xff"`)
	wantHex(t, s, "A", "0a 01 61 0a 01 62 12 01 61 12 02 62 63", `1="b" 2="bc"`)
	wantHex(t, s, "A", "0a 01 61 0a 00 12 01 61 12 00", "")
	wantHex(t, s, "A", "0a 00 0a 01 61", `1="a"`)
	wantHex(t, s, "A", "0a 01 00", `1="\x00"`)
	wantHex(t, s, "A", "1a 01 61 1a 00 22 00", "3=0 4=0")
	wantHex(t, s, "A", "2a 00 32 01 ff 2a 01 61 2a 00 32 00", `5=0,"a",0 6="\xff",0`)
	wantHex(t, s, "A", "3a 01 61 42 00", "8=0")
	wantHex(t, s, "A", "42 00 3a 01 61", `7="a"`)
	wantHex(t, s, "A", "0a 81 00 61", `1="a"`)
}

func TestP5TextIsUTF8(t *testing.T) {
	s := mustParse(t, "message A { string a=1; optional string b=2; repeated string c=3; oneof o { string d=4; } map<string, string> e=5; bytes f=6; A g=7; }")
	good := []string{"\u007f", "\u0080", "\u07ff", "\u0800", "\ud7ff", "\ue000", "\ufffd", "\uffff", "\U00010000", "\U0010ffff", "a\x00b"}
	for _, x := range good {
		for number := 1; number < 5; number++ {
			wantRead(t, s, "A", long(t, number, x), strconv.Itoa(number)+"="+showValue(api.Value{S: x}))
		}
	}
	bad := []string{"\x80", "a\x80", "\xc0\x80", "\xc1\xbf", "\xe0\x9f\xbf", "\xed\xa0\x80", "\xed\xbf\xbf", "\xf0\x8f\xbf\xbf", "\xf4\x90\x80\x80", "\xf8\x88\x80\x80\x80", "\xc3", "\xe2\x82", "\xf0\x9f\x98", "\xff", "abc\xfe"}
	for _, x := range bad {
		for number := 1; number < 5; number++ {
			wantFault(t, s, "A", long(t, number, x), api.ErrText, 2)
			wantFault(t, s, "A", long(t, number, "ok")+long(t, number, x)+long(t, number, "ok"), api.ErrText, 6)
			wantFault(t, s, "A", long(t, 7, long(t, number, x)), api.ErrText, 4)
		}
		wantFault(t, s, "A", long(t, 5, long(t, 1, x)), api.ErrText, 4)
		wantFault(t, s, "A", long(t, 5, long(t, 1, "k")+long(t, 2, x)), api.ErrText, 7)
		wantFault(t, s, "A", long(t, 1, x)+"\x00", api.ErrText, 2)
		wantRead(t, s, "A", long(t, 6, x), "6="+showValue(api.Value{S: x}))
		wantRead(t, s, "A", long(t, 8, x), show(api.Msg{Unknown: long(t, 8, x)}))
	}
}

func TestP5RepeatedAndPacked(t *testing.T) {
	s := mustParse(t, "message A { repeated int32 a=1; repeated fixed32 b=2; repeated double c=3; repeated E d=4; repeated bytes e=5; repeated A f=6; } enum E { }")
	wantHex(t, s, "A", "08 01 0a 03 02 80 00 08 03 0a 00 0a 01 04", "1=1,2,0,3,4")
	wantHex(t, s, "A", "12 08 01 00 00 00 02 00 00 00 15 03 00 00 00", "2=1,2,3")
	wantHex(t, s, "A", "1a 10 01 00 00 00 00 00 00 00 00 00 00 00 00 00 00 00", "3=1,0")
	wantHex(t, s, "A", "22 0b ff ff ff ff ff ff ff ff ff 01 07", "4=-1,7")
	wantHex(t, s, "A", "0a 00 12 00 1a 00 22 00", "")
	wantHex(t, s, "A", "2a 02 01 02 2a 00", `5="\x01\x02",0`)
	wantHex(t, s, "A", "32 00 32 02 08 05 32 00", "6=0,{1=5},0")
	wantMarkedFault(t, s, "A", api.ErrCut, "12 05 01 00 00 00 ^02 00 00 00", "12 03 ^01 00 00 15", "1a 0f 01 00 00 00 00 00 00 00 ^00 00 00 00 00 00 00 00",
		"0a 02 01 ^80 01", "0a 03 01 ^80 80 01", "0a 03 ^01 01", "0a ^", "0a ^80", "32 04 0a 02 01 ^80 01")
	wantMarkedFault(t, s, "A", api.ErrVarint, "0a 0b 01 ^80 80 80 80 80 80 80 80 80 02", "0a 0c 01 ^80 80 80 80 80 80 80 80 80 80 00")
	wantMarkedFault(t, s, "A", api.ErrCut, "0a 0a 01 ^80 80 80 80 80 80 80 80 80 01")
}

// A packed record fits a repeated field of numbers alone.
func TestP5OnlyRepeatedNumbersArePacked(t *testing.T) {
	s := mustParse(t, "message A { int32 a=1; optional int32 b=2; oneof o { int32 c=3; bool d=4; } map<int32,int32> e=5; }")
	wantHex(t, s, "A", "0a 01 05 12 01 05 1a 01 05", "?0a01051201051a0105")
	wantHex(t, s, "A", "2a 06 0a 01 05 12 01 06", "5={1=0 2=0}")
}

func TestP5KindsThatDoNotFit(t *testing.T) {
	bodies := map[byte]string{0: "05", 1: "01 02 03 04 05 06 07 08", 2: "02 ff fe", 5: "01 02 03 04"}
	kinds := map[string]byte{"int32": 0, "int64": 0, "uint32": 0, "uint64": 0, "sint32": 0, "sint64": 0, "bool": 0, "E": 0, "fixed32": 5, "sfixed32": 5, "float": 5, "fixed64": 1, "sfixed64": 1, "double": 1, "string": 2, "bytes": 2, "A": 2}
	for word, own := range kinds {
		s := mustParse(t, "message A { "+word+" a=1; optional "+word+" b=2; repeated "+word+" c=3; oneof o { "+word+" d=4; bool z=5; } map<bool,"+word+"> e=6; } enum E { }")
		for kind, body := range bodies {
			for number := byte(1); number < 7; number++ {
				fits := kind == own || number == 3 && kind == 2
				if number == 6 {
					fits = kind == 2
				}
				if fits || number == 5 {
					continue
				}
				record := string([]byte{number<<3 | kind}) + unhex(t, body)
				wantRead(t, s, "A", "\x28\x01"+record, "5=1 "+show(api.Msg{Unknown: record}))
			}
		}
	}
}

func TestP5UnknownRecords(t *testing.T) {
	s := mustParse(t, "message A { int32 a=1; A b=2; } message None { }")
	wantHex(t, s, "A", "18 05 08 07 1a 01 ff 19 00 00 00 00 00 00 00 00 1d 00 00 00 00", "1=7 ?18051a01ff1900000000000000001d00000000")
	wantHex(t, s, "A", "98 80 00 85 80 00 9a 00 81 00 ff", "?9880008580009a008100ff")
	wantHex(t, s, "A", "f8 ff ff ff 0f 05 88 00 06", "1=6 ?f8ffffff0f05")
	wantHex(t, s, "A", "12 02 18 05 18 06 12 02 18 07", "2={?18051807} ?1806")
	wantHex(t, s, "None", "08 01 12 02 ff ff 0d 01 02 03 04", "?08011202ffff0d01020304")
	wantMarkedFault(t, s, "None", api.ErrCut, "08 ^", "08 ^80", "09 ^01 02 03 04 05 06 07", "0d ^01 02 03", "0a ^", "0a 01 ^", "0a 02 ^01", "^80", "08 01 ^ff")
	wantMarkedFault(t, s, "None", api.ErrVarint, "08 ^ff ff ff ff ff ff ff ff ff 02", "^ff ff ff ff ff ff ff ff ff 02", "0a ^ff ff ff ff ff ff ff ff ff 7f")
}

func TestP5Tags(t *testing.T) {
	s := mustParse(t, "message A { int32 a=1; int32 b=536870911; int32 c=536870910; A d=2; }")
	wantHex(t, s, "A", "f8 ff ff ff 0f 05 f0 ff ff ff 0f 06", "536870910=6 536870911=5")
	wantHex(t, s, "A", "88 80 80 80 80 80 80 80 80 00 05", "1=5")
	wantMarkedFault(t, s, "A", api.ErrNumber, "^00", "^01", "^02", "^03", "^07", "^80 00", "08 01 ^04",
		"^80 80 80 80 10", "^83 80 80 80 10", "^ff ff ff ff 1f", "^ff ff ff ff ff ff ff ff ff 01", "^88 80 80 80 80 80 80 80 80 01",
		"^80 80 80 80 80 80 01", "12 02 ^00 08", "^05 00")
	wantMarkedFault(t, s, "A", api.ErrWire, "^0b", "^0c", "^0e", "^0f", "08 01 ^0b", "12 01 ^0b", "^1b", "^fb ff ff ff 0f", "^8b 00", "^0b ff ff ff ff ff ff ff ff ff ff")
	wantMarkedFault(t, s, "A", api.ErrVarint, "^80 80 80 80 80 80 80 80 80 02", "08 01 ^ff ff ff ff ff ff ff ff ff ff", "12 0a ^ff ff ff ff ff ff ff ff ff ff")
	wantMarkedFault(t, s, "A", api.ErrCut, "^80 80 80 80 80 80 80 80 80", "^8b", "^80", "12 01 ^80 00", "08 01 ^88")
}

func TestP5CutAndVarint(t *testing.T) {
	s := mustParse(t, "message A { uint64 a=1; fixed32 b=2; fixed64 c=3; bytes d=4; A e=5; string f=6; }")
	wantHex(t, s, "A", "08 80 80 80 80 80 80 80 80 80 01", "1=-9223372036854775808")
	wantMarkedFault(t, s, "A", api.ErrVarint, "08 ^80 80 80 80 80 80 80 80 80 02", "08 ^80 80 80 80 80 80 80 80 80 80", "08 ^80 80 80 80 80 80 80 80 80 81 00",
		"22 ^80 80 80 80 80 80 80 80 80 02", "2a 0b 08 ^80 80 80 80 80 80 80 80 80 02")
	wantMarkedFault(t, s, "A", api.ErrCut, "08 ^", "08 ^80", "08 ^80 80 80 80 80 80 80 80 80", "15 ^", "15 ^01 02 03", "19 ^", "19 ^01 02 03 04 05 06 07",
		"22 ^", "22 ^80", "22 01 ^", "22 03 ^01 02", "32 03 ^ff ff", "22 ff ff ff ff ff ff ff ff 7f ^01", "22 ff ff ff ff ff ff ff ff ff 01 ^", "22 80 80 80 80 80 80 80 80 80 01 ^00")
	// within a message bytes end where it does, whatever is behind it
	wantMarkedFault(t, s, "A", api.ErrCut, "2a 01 08 ^05", "2a 02 08 ^80 05", "2a 04 15 ^01 02 03 04", "2a 02 22 01 ^61", "2a 03 22 02 ^61 62", "2a 01 ^80 05", "2a 03 2a 02 ^08 05", "2a 04 2a 02 22 01 ^61")
}
