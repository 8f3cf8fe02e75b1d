package twinwire_test

import (
	"strconv"
	"strings"
	"testing"

	"twinwire/api"
	"twinwire/twinwire"
)

func TestP5MessagesAreReadIntoWhatIsThere(t *testing.T) {
	s := mustParse(t, "message A { int32 a=1; optional string b=2; repeated int32 c=3; A d=4; optional A e=5; repeated A f=6; map<int32,int32> g=7; }")
	wantHex(t, s, "A", "22 00", "4=0")
	wantHex(t, s, "A", "2a 00 22 00", "4=0 5=0")
	wantHex(t, s, "A", "22 02 08 05 22 03 12 01 62", `4={1=5 2="b"}`)
	wantHex(t, s, "A", "22 04 08 05 18 01 08 01 22 06 08 06 18 02 18 03", "1=1 4={1=6 3=1,2,3}")
	wantHex(t, s, "A", "22 02 08 05 22 02 08 00", "4=0")
	wantHex(t, s, "A", "2a 02 08 05 2a 00", "5={1=5}")
	wantHex(t, s, "A", "2a 02 08 05 2a 02 08 00", "5=0")
	wantHex(t, s, "A", "22 04 22 02 08 05 22 05 22 03 12 01 62", `4={4={1=5 2="b"}}`)
	wantHex(t, s, "A", "32 02 08 05 32 03 12 01 62", `6={1=5},{2="b"}`)
	wantHex(t, s, "A", "22 06 3a 04 08 02 10 01 22 06 3a 04 08 01 10 02 22 06 3a 04 08 02 10 03", "4={7={1=1 2=2},{1=2 2=3}}")
	wantHex(t, s, "A", "22 02 78 01 78 02 22 02 78 03", "4={?78017803} ?7802")
}

func TestP5Oneofs(t *testing.T) {
	s := mustParse(t, "message A { oneof o { int32 a=1; A b=3; string c=5; E d=7; } int32 e=2; oneof p { bool f=4; fixed32 g=6; } } enum E { }")
	wantHex(t, s, "A", "08 05", "1=5")
	wantHex(t, s, "A", "08 00", "1=0")
	wantHex(t, s, "A", "1a 00", "3=0")
	wantHex(t, s, "A", "2a 00", "5=0")
	wantHex(t, s, "A", "38 00", "7=0")
	wantHex(t, s, "A", "08 05 08 00", "1=0")
	wantHex(t, s, "A", "08 05 2a 01 78", `5="x"`)
	wantHex(t, s, "A", "2a 01 78 08 00", "1=0")
	wantHex(t, s, "A", "08 01 1a 00 2a 00 38 02", "7=2")
	wantHex(t, s, "A", "38 02 2a 00 1a 00 08 01", "1=1")
	// other fields, and those of another oneof, stay
	wantHex(t, s, "A", "20 01 10 02 08 05 38 01", "2=2 4=1 7=1")
	wantHex(t, s, "A", "38 01 20 01 35 00 00 00 00", "6=0 7=1")
	// a message is read into, unless another field took it away
	wantHex(t, s, "A", "1a 02 10 05 1a 02 08 06", "3={1=6 2=5}")
	wantHex(t, s, "A", "1a 02 10 05 08 01 1a 02 08 06", "3={1=6}")
	wantHex(t, s, "A", "1a 02 08 05 1a 02 38 06", "3={7=6}")
	wantHex(t, s, "A", "1a 02 78 01 08 01 78 02", "1=1 ?7802")
	// a record that does not fit takes nothing away
	wantHex(t, s, "A", "2a 01 78 0d 01 02 03 04 1d 01 02 03 04 38 80 00 3a 00", "7=0 ?0d010203041d010203043a00")
	wantHex(t, s, "A", "2a 01 78 0d 01 02 03 04", `5="x" ?0d01020304`)
}

func TestP5Maps(t *testing.T) {
	s := mustParse(t, "message A { map<int32,string> a=1; map<string,A> b=2; map<bool,E> c=3; int32 d=4; } enum E { }")
	wantHex(t, s, "A", "0a 05 08 01 12 01 78", `1={1=1 2="x"}`)
	wantHex(t, s, "A", "0a 05 12 01 78 08 01", `1={1=1 2="x"}`)
	// what an entry does not have
	wantHex(t, s, "A", "0a 00 12 00 1a 00", "1={1=0 2=0} 2={1=0 2=0} 3={1=0 2=0}")
	wantHex(t, s, "A", "0a 02 08 01 12 02 0a 00 12 03 0a 01 6b", `1={1=1 2=0} 2={1=0 2=0},{1="k" 2=0}`)
	wantHex(t, s, "A", "0a 03 12 01 78 1a 02 10 05 12 04 12 02 20 05", `1={1=0 2="x"} 2={1=0 2={4=5}} 3={1=0 2=5}`)
	// within an entry the last value counts, and messages are read into what is there
	wantHex(t, s, "A", "0a 0a 08 01 08 02 12 01 78 12 01 79", `1={1=2 2="y"}`)
	wantHex(t, s, "A", "0a 04 08 01 08 00", "1={1=0 2=0}")
	wantHex(t, s, "A", "12 0a 12 02 20 05 12 04 0a 02 08 01", `2={1=0 2={1={1=1 2=0} 4=5}}`)
	// of the same key the last entry counts, whole
	wantHex(t, s, "A", "0a 05 08 01 12 01 78 0a 02 08 01", "1={1=1 2=0}")
	wantHex(t, s, "A", "12 04 12 02 20 05 12 06 12 04 0a 02 08 01", "2={1=0 2={1={1=1 2=0}}}")
	wantHex(t, s, "A", "12 04 12 02 78 05 12 00", "2={1=0 2=0}")
	wantHex(t, s, "A", "0a 05 08 01 12 01 78 0a 0a 08 81 80 80 80 10 12 02 79 79", `1={1=1 2="yy"}`)
	wantHex(t, s, "A", "1a 02 08 05 1a 04 08 01 10 07", "3={1=1 2=7}")
	// unknown records in entries are passed over, those of a message in them are kept
	wantHex(t, s, "A", "0a 0f 78 01 08 01 7a 01 ff 12 01 78 0d 01 02 03 04", `1={1=1 2="x"}`)
	wantHex(t, s, "A", "12 06 78 01 12 02 78 02 78 03", "2={1=0 2={?7802}} ?7803")
	wantHex(t, s, "A", "0a 03 0a 01 05", "1={1=0 2=0}")
	wantHex(t, s, "A", "08 05 15 01 02 03 04", "?08051501020304")
}

func TestP5KeysRise(t *testing.T) {
	for _, c := range []struct{ word, digits, want string }{
		{"int32", "08 01|08 ff ff ff ff 0f|08 00|08 80 80 80 80 08|08 ff ff ff ff 07", "-2147483648 -1 0 1 2147483647"},
		{"int64", "08 01|08 ff ff ff ff ff ff ff ff ff 01|08 00|08 80 80 80 80 80 80 80 80 80 01|08 ff ff ff ff 0f", "-9223372036854775808 -1 0 1 4294967295"},
		{"sint32", "08 02|08 01|08 00|08 ff ff ff ff 0f|08 fe ff ff ff 0f", "-2147483648 -1 0 1 2147483647"},
		{"sint64", "08 02|08 01|08 00|08 ff ff ff ff ff ff ff ff ff 01|08 fe ff ff ff ff ff ff ff ff 01", "-9223372036854775808 -1 0 1 9223372036854775807"},
		{"sfixed32", "0d 01 00 00 00|0d ff ff ff ff|0d 00 00 00 00|0d 00 00 00 80", "-2147483648 -1 0 1"},
		{"sfixed64", "09 01 00 00 00 00 00 00 00|09 ff ff ff ff ff ff ff ff|0a 00|09 00 00 00 00 00 00 00 80", "-9223372036854775808 -1 0 1"},
		{"uint32", "08 ff ff ff ff 0f|08 01|08 00|08 80 80 80 80 08", "0 1 2147483648 4294967295"},
		{"uint64", "08 ff ff ff ff ff ff ff ff ff 01|08 01|08 00|08 80 80 80 80 80 80 80 80 80 01", "0 1 -9223372036854775808 -1"},
		{"fixed32", "0d ff ff ff ff|0d 01 00 00 00|0d 00 00 00 80|0d 00 00 00 00", "0 1 2147483648 4294967295"},
		{"fixed64", "09 ff ff ff ff ff ff ff ff|09 01 00 00 00 00 00 00 00|09 00 00 00 00 00 00 00 80|09 00 00 00 00 00 00 00 00", "0 1 -9223372036854775808 -1"},
		{"bool", "08 02|08 00|08 01", "0 1"},
		{"string", "0a 01 62|0a 00|0a 02 61 62|0a 01 61|0a 02 c3 a9|0a 01 5a|0a 03 ef bf bd|0a 04 f0 90 80 80", `0 "Z" "a" "ab" "b" "\u00e9" "\ufffd" "\U00010000"`},
	} {
		s := mustParse(t, "message A { map<"+c.word+",bool> m=1; }")
		records := ""
		for _, digits := range strings.Split(c.digits, "|") {
			records += long(t, 1, unhex(t, digits))
		}
		want := "1={1=" + strings.ReplaceAll(c.want, " ", " 2=0},{1=") + " 2=0}"
		wantRead(t, s, "A", records, want)
		wantRead(t, s, "A", records+records, want)
	}
}

func TestP5FaultsInEntries(t *testing.T) {
	s := mustParse(t, "message A { map<string,fixed32> a=1; map<int32,A> b=2; }")
	wantMarkedFault(t, s, "A", api.ErrText, "0a 03 0a 01 ^ff", "0a 06 0a 00 0a 02 ^c3 28")
	wantMarkedFault(t, s, "A", api.ErrCut, "0a 02 0a 01 ^61", "0a 04 15 ^01 02 03 04", "0a 01 ^8a 00", "0a 02 78 ^80 00", "0a 03 ^0a 00", "12 04 12 03 ^0a 00 00", "12 05 12 03 0a 02 ^0a 00 00")
	wantMarkedFault(t, s, "A", api.ErrNumber, "0a 01 ^03", "0a 03 0a 00 ^00", "12 03 12 01 ^00")
	wantMarkedFault(t, s, "A", api.ErrWire, "0a 01 ^0b", "0a 01 ^14")
	wantMarkedFault(t, s, "A", api.ErrVarint, "12 0b 08 ^80 80 80 80 80 80 80 80 80 02", "12 0b 78 ^80 80 80 80 80 80 80 80 80 02")
}

// nested is records of a field, each within the one before.
func nested(t *testing.T, number, times int, innermost string) string {
	t.Helper()
	for range times {
		innermost = long(t, number, innermost)
	}
	return innermost
}

func TestP5Deep(t *testing.T) {
	for _, form := range []string{"A", "optional A", "repeated A", "oneof o { A"} {
		end := " d=4; }"
		if strings.HasPrefix(form, "oneof") {
			end = " d=4; } }"
		}
		s := mustParse(t, "message A { int32 a=1; "+form+end)
		for times := range api.MaxDeep {
			want := strings.Repeat("4={", times) + "1=5" + strings.Repeat("}", times)
			wantRead(t, s, "A", nested(t, 4, times, "\x08\x05"), want)
		}
		for times := api.MaxDeep; times < api.MaxDeep+4; times++ {
			at := 2 * api.MaxDeep
			wantFault(t, s, "A", nested(t, 4, times, ""), api.ErrDeep, at)
			wantFault(t, s, "A", nested(t, 4, times, "\x00"), api.ErrDeep, at)
			wantFault(t, s, "A", "\x08\x01"+nested(t, 4, times, "\x08\x05")+"\x00", api.ErrDeep, at+2)
		}
		// what is wrong ahead of it is told; and a length is looked at first
		wantFault(t, s, "A", "\x00"+nested(t, 4, api.MaxDeep, ""), api.ErrNumber, 0)
		wantFault(t, s, "A", nested(t, 4, api.MaxDeep-1, "\x22\x01"), api.ErrCut, 2*api.MaxDeep)
		wantFault(t, s, "A", nested(t, 4, api.MaxDeep-1, "\x22"), api.ErrCut, 2*api.MaxDeep-1)
		wantFault(t, s, "A", nested(t, 4, api.MaxDeep-1, "\x22\x80\x80\x80\x80\x80\x80\x80\x80\x80\x02"), api.ErrVarint, 2*api.MaxDeep-1)
		// a record that is not known is no message, however long it is
		wantRead(t, s, "A", nested(t, 5, 12, ""), show(api.Msg{Unknown: nested(t, 5, 12, "")}))
		wantFault(t, s, "A", nested(t, 4, api.MaxDeep-1, "\x24"), api.ErrWire, 2*api.MaxDeep-2)
	}
}

func TestP5DeepEntries(t *testing.T) {
	s := mustParse(t, "message A { map<int32,int32> a=1; map<int32,A> b=2; A c=3; map<int32,E> d=4; map<int32,None> e=5; repeated A f=6; } message None { } enum E { }")
	deepest := api.MaxDeep - 2 // records of field 3, so that an entry is as deep as can be
	for _, number := range []int{1, 4} {
		wantRead(t, s, "A", nested(t, 3, deepest, long(t, number, "")), strings.Repeat("3={", deepest)+strconv.Itoa(number)+"={1=0 2=0}"+strings.Repeat("}", deepest))
		wantRead(t, s, "A", nested(t, 3, deepest, long(t, number, "\x08\x01\x10\x02")), strings.Repeat("3={", deepest)+strconv.Itoa(number)+"={1=1 2=2}"+strings.Repeat("}", deepest))
		wantFault(t, s, "A", nested(t, 3, deepest+1, long(t, number, "")), api.ErrDeep, 2*api.MaxDeep)
		wantFault(t, s, "A", nested(t, 3, deepest+1, long(t, number, "\x00")), api.ErrDeep, 2*api.MaxDeep)
	}
	for _, number := range []int{2, 5} {
		// with a record of field 2 or without: its message would be too deep
		for _, entry := range []string{"", "\x12\x00", "\x08\x01", "\x00", "\xff"} {
			wantFault(t, s, "A", nested(t, 3, deepest, long(t, number, entry)), api.ErrDeep, 2*api.MaxDeep-2)
			wantFault(t, s, "A", nested(t, 3, deepest+1, long(t, number, entry)), api.ErrDeep, 2*api.MaxDeep)
		}
		wantRead(t, s, "A", nested(t, 3, deepest-1, long(t, number, "\x12\x00")), strings.Repeat("3={", deepest-1)+strconv.Itoa(number)+"={1=0 2=0}"+strings.Repeat("}", deepest-1))
		wantFault(t, s, "A", nested(t, 3, deepest, long(t, number, "")[:1]+"\x01"), api.ErrCut, 2*api.MaxDeep-2)
	}
	// an entry, and the message in it, are one deeper each
	entries := func(times int) string { return nested(t, 2, 2*times, "") }
	wantRead(t, s, "A", entries(3), "2={1=0 2={2={1=0 2={2={1=0 2=0}}}}}")
	wantFault(t, s, "A", entries(4), api.ErrDeep, 14)
	wantFault(t, s, "A", entries(5), api.ErrDeep, 14)
	wantRead(t, s, "A", nested(t, 2, 6, long(t, 1, "")), "2={1=0 2={2={1=0 2={2={1=0 2={1={1=0 2=0}}}}}}}")
	wantRead(t, s, "A", nested(t, 2, 6, long(t, 3, "")), "2={1=0 2={2={1=0 2={2={1=0 2={3=0}}}}}}")
	wantFault(t, s, "A", nested(t, 2, 6, long(t, 2, "")), api.ErrDeep, 14)
	wantFault(t, s, "A", nested(t, 2, 6, nested(t, 3, 2, "")), api.ErrDeep, 16)
}

// Fields of one message may lead to others and back, whichever way it was asked first.
func TestP5MessagesOfOneAnother(t *testing.T) {
	const text = "message A { B b=1; repeated C c=2; } message B { map<bool,A> a=1; } message C { oneof o { A a=1; B b=2; C c=3; } }"
	for _, first := range []string{"A", "B", "C"} {
		s := mustParse(t, text)
		wantRead(t, s, first, "", "")
		wantHex(t, s, "A", "0a 06 0a 04 12 02 12 00 12 02 1a 00", "1={1={1=0 2={2=0}}} 2={3=0}")
		wantHex(t, s, "B", "0a 04 12 02 0a 00", "1={1=0 2={1=0}}")
		wantHex(t, s, "C", "0a 00 12 00", "2=0")
		wantHex(t, s, "C", "1a 02 1a 00", "3={3=0}")
	}
}

// A schema does not know what another one's messages of the same name have.
func TestP5SchemasByThemselves(t *testing.T) {
	schemas := []*twinwire.Schema{mustParse(t, "message A { int32 a=1; }"), mustParse(t, "message A { sint32 a=1; }"), mustParse(t, "message A { repeated int32 a=1; }")}
	for i, want := range []string{"1=3", "1=-2", "1=3"} {
		wantHex(t, schemas[i], "A", "08 03", want)
	}
	wantHex(t, schemas[2], "A", "08 00", "1=0")
	wantHex(t, schemas[0], "A", "08 00", "")
}
