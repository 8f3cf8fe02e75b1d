package twinwire_test

import (
	"slices"
	"strconv"
	"strings"
	"sync"
	"testing"

	"twinwire/api"
	"twinwire/twinwire"
)

// allForms has every rule of the grammar, and every type.
const allForms = `message Every {
  int32 a = 1; optional int64 b = 2; repeated uint32 c = 3;
  oneof pick { uint64 d = 4; Other e = 5; Colour f = 6; }
  map<string, Every> g = 7; map<sfixed64,Colour>h=8;
}
enum Colour { RED = 0; GREEN = 1; ALSO_GREEN = 1; }
message Other { repeated Every every = 536870911; sint32 s=1;sint64 t=2;bool u=3;
  fixed32 v=4;fixed64 w=5;sfixed32 x=6;sfixed64 y=7;float z=8;double _=9;string _1=10;bytes aa=11; }
enum Empty{}message None{}`

// marked takes the sign ^ out of a text, and tells the place where it stood.
func marked(t *testing.T, text string) (string, int) {
	t.Helper()
	ahead, behind, ok := strings.Cut(text, "^")
	if !ok {
		t.Fatalf("no place is marked in %q", text)
	}
	return ahead + behind, len(ahead)
}

func wantSchema(t *testing.T, text string, names ...string) {
	t.Helper()
	s, e, at := twinwire.Parse(text)
	if s == nil || e != api.OK || at != 0 {
		t.Errorf("Parse(%q): %d at %d, want a schema", text, e, at)
		return
	}
	if got, e := s.Messages(); e != api.OK || !slices.Equal(got, names) {
		t.Errorf("Messages of %q: %q, %d, want %q", text, got, e, names)
	}
}

func wantError(t *testing.T, text string, e api.Errno, at int) {
	t.Helper()
	if s, gotE, gotAt := twinwire.Parse(text); s != nil || gotE != e || gotAt != at {
		t.Errorf("Parse(%q): %v, %d at %d, want %d at %d", text, s, gotE, gotAt, e, at)
	}
}

func wantMarked(t *testing.T, e api.Errno, texts ...string) {
	t.Helper()
	for _, m := range texts {
		text, at := marked(t, m)
		wantError(t, text, e, at)
	}
}

// fields is n fields, with numbers and names of their own, from a number on.
func fields(from, n int) string {
	var b strings.Builder
	for i := from; i < from+n; i++ {
		b.WriteString("bool f" + strconv.Itoa(i) + "=" + strconv.Itoa(i) + ";")
	}
	return b.String()
}

func TestP3OrdinarySchemas(t *testing.T) {
	wantSchema(t, "")
	wantSchema(t, "\n \n")
	wantSchema(t, allForms, "Every", "Other", "None")
	wantSchema(t, "message Z{}message Y{}message A{}", "Z", "Y", "A")
	wantSchema(t, "message\nA\n{\nint32\nx\n=\n1\n;\n}", "A")
	wantSchema(t, "enum E{}")
}

func TestP3NamesInPlacesOfTheirOwn(t *testing.T) {
	wantSchema(t, "message A{int32 A=1;A B=2;}", "A")
	wantSchema(t, "message A{int32 x=1;}message B{int32 x=1;}", "A", "B")
	wantSchema(t, "enum E{A=1;}enum F{A=1;}message A{E E=1;F F=2;}", "A")
	wantSchema(t, "message A{oneof o{bool a=1;}oneof p{bool b=2;}}message B{bool o=1;bool p=2;}", "A", "B")
	wantSchema(t, "message messages{int32 int=1;bool maps=2;bool Map=3;int32 int33=4;}", "messages")
}

func TestP3TypesAheadOfWhatTheyName(t *testing.T) {
	wantSchema(t, "message A{B b=1;oneof o{C c=2;}map<bool,B>m=3;}message B{A a=1;}enum C{}", "A", "B")
	wantMarked(t, api.ErrName,
		"message A{^B b=1;}",
		"message A{int32 x=1;repeated ^x y=2;}",
		"message A{oneof o{int32 x=1;^o y=2;}}",
		"message A{map<int32,^B>m=1;}",
		"enum E{X=0;}message A{optional ^X x=1;}",
		"message A{^a x=1;}",
	)
}

func TestP3MapKeys(t *testing.T) {
	for _, k := range []string{"int32", "int64", "uint32", "uint64", "sint32", "sint64", "bool", "fixed32", "fixed64", "sfixed32", "sfixed64", "string"} {
		wantSchema(t, "message A{map<"+k+",double>m=1;}", "A")
	}
	for _, k := range []string{"float", "double", "bytes", "A", "E", "Nothing"} {
		wantMarked(t, api.ErrName, "message A{map<^"+k+",A>m=1;}enum E{}")
	}
	wantMarked(t, api.ErrSchema, "message A{map<^map,A>m=1;}", "message A{map<^1,A>m=1;}")
}

func TestP3MaxText(t *testing.T) {
	wantSchema(t, strings.Repeat(" ", api.MaxText))
	wantSchema(t, strings.Repeat("\n", api.MaxText-11)+"message A{}", "A")
	wantError(t, strings.Repeat(" ", api.MaxText+1), api.ErrSchema, 0)
	wantError(t, "message A{}"+strings.Repeat("\n", api.MaxText), api.ErrSchema, 0)
	wantError(t, "message A{bool x=0;}}"+strings.Repeat(" ", api.MaxText), api.ErrSchema, 0)
	wantError(t, strings.Repeat(" ", api.MaxText-1)+"}", api.ErrSchema, api.MaxText-1)
	wantError(t, strings.Repeat(" ", api.MaxText-7)+"message", api.ErrSchema, api.MaxText)
}

func TestP3MaxName(t *testing.T) {
	most, more := strings.Repeat("N", api.MaxName), strings.Repeat("N", api.MaxName+1)
	wantSchema(t, "message "+most+"{"+most+" "+most+"=1;}enum n{"+most+"=1;}", most)
	wantSchema(t, "message A{oneof "+most+"{bool a=1;}}enum "+most+"{}", "A")
	wantMarked(t, api.ErrName,
		"message ^"+more+"{}",
		"enum ^"+more+"{}",
		"enum E{^"+more+"=1;}",
		"message A{bool ^"+more+"=1;}",
		"message A{map<bool,bool>^"+more+"=1;}",
		"message A{oneof ^"+more+"{bool a=1;}}",
		"message A{oneof o{bool ^"+more+"=1;}}",
		"message A{^"+more+" a=1;}message "+more+"{}",
		"message A{map<bool,^"+more+">a=1;}enum "+more+"{}",
	)
}

func TestP3NamesTwice(t *testing.T) {
	wantMarked(t, api.ErrName,
		"message A{}message ^A{}",
		"message A{}enum B{}enum ^A{}",
		"enum A{}message B{}message ^A{}",
		"enum A{}enum ^A{}",
		"message A{bool x=1;bool ^x=2;}",
		"message A{bool x=1;map<bool,bool>^x=2;}",
		"message A{bool x=1;oneof ^x{bool y=2;}}",
		"message A{oneof x{bool y=1;}bool ^x=2;}",
		"message A{oneof x{bool y=1;}bool ^y=2;}",
		"message A{oneof x{bool ^x=1;}}",
		"message A{oneof x{bool y=1;}oneof ^x{bool z=2;}}",
		"message A{oneof x{bool y=1;bool ^y=2;}}",
		"enum E{X=1;Y=2;^X=3;}",
	)
}

func TestP3MaxMessages(t *testing.T) {
	six := "message A{}message B{}message C{}enum X{}message D{}message E{}message F{}"
	wantSchema(t, six+"enum G{}enum H{}", "A", "B", "C", "D", "E", "F")
	wantMarked(t, api.ErrName,
		six+"message ^G{}",
		six+"enum G{}message ^H{}message I{}",
		"message Z{G g=1;}message A{}message B{}message C{}message D{}message E{}message ^G{}",
	)
}

func TestP3MaxFields(t *testing.T) {
	most := fields(1, api.MaxFields)
	wantSchema(t, "message A{"+most+"}message B{"+most+"}", "A", "B")
	wantSchema(t, "message A{oneof o{"+fields(1, 5)+"}oneof p{"+fields(6, 5)+"}map<bool,A>m=11;oneof q{A a=12;}}", "A")
	wantMarked(t, api.ErrName,
		"message A{"+most+"bool ^x=13;}",
		"message A{"+most+"map<bool,bool>^x=0;}",
		"message A{"+most+"oneof o{bool ^x=1;}}",
		"message A{"+most+"^X x=13;}",
		"message A{oneof o{"+most+"bool ^x=13;}}",
		"message B{bool x=1;}message A{"+fields(1, 6)+"oneof o{"+fields(7, 6)+"}repeated A ^x=13;}",
	)
}

func TestP3FieldNumbers(t *testing.T) {
	wantSchema(t, "message A{bool x=536870911;bool y=1;}message B{bool z=1;}", "A", "B")
	wantMarked(t, api.ErrName,
		"message A{bool x=^0;}",
		"message A{bool x=^536870912;}",
		"message A{bool x=^4294967297;}",
		"message A{bool x=^18446744073709551617;}",
		"message A{bool x=^1"+strings.Repeat("0", 1900)+";}",
		"message A{map<bool,bool>x=^0;}",
		"message A{oneof o{bool x=^536870912;}}",
		"message A{bool x=7;bool y=^7;}",
		"message A{oneof o{bool x=7;bool y=^7;}}",
		"message A{oneof o{bool x=7;}oneof p{bool y=^7;}}",
		"message A{map<bool,bool>x=7;bool z=8;repeated bool y=^7;}",
	)
}

func TestP3EnumNumbers(t *testing.T) {
	wantSchema(t, "enum E{A=0;B=2147483647;C=0;D=536870912;}")
	wantMarked(t, api.ErrName,
		"enum E{A=^2147483648;}",
		"enum E{A=0;B=^4294967296;}",
		"enum E{A=^18446744073709551616;}",
		"enum E{A=^"+strings.Repeat("9", 1900)+";}",
	)
}

func TestP3FirstWrongName(t *testing.T) {
	wantMarked(t, api.ErrName,
		"message A{^B x=0;bool x=0;}",
		"message A{bool x=1;^B x=2;}",
		"message A{bool x=1;bool ^x=1;}",
		"message A{bool x=^0;B y=1;}message A{}",
		"message A{map<^float,B>m=0;}",
		"message A{map<bool,^B>m=0;}",
		"message A{bool m=1;map<bool,bool>^m=0;}",
		"enum E{A=1;^A=2147483648;}",
		"enum E{A=^2147483648;A=1;}message E{}",
		"message A{oneof o{bool ^o=0;bool p=1;}}",
		"message A{bool o=1;oneof ^o{B b=0;}}",
	)
}

func TestP3WrongWords(t *testing.T) {
	wantMarked(t, api.ErrSchema,
		"^A", "^1", "^{", "^int32", "^repeated", "message^", "message \n ^", "message A^", "message A{^", "enum^", "enum E{^",
		"message ^1{}", "message ^{}", "message A ^B{}", "message A{}^;", "message A{}^}", "message A{}^A", "enum E{}^E",
		"message A{int32 x=1^}", "message A{int32 x=1;^;}", "message A{int32 ^=1;}", "message A{int32 x^;}", "message A{int32 x=^x;}", "message A{int32 x=^;}",
		"message A{repeated ^repeated int32 x=1;}", "message A{optional ^repeated int32 x=1;}", "message A{optional ^map<bool,bool>x=1;}", "message A{repeated ^oneof o{bool x=1;}}",
		"message A{oneof o{^}}", "message A{oneof ^{bool x=1;}}", "message A{oneof o{^optional bool x=1;}}", "message A{oneof o{^map<bool,bool>x=1;}}", "message A{oneof o{^oneof p{bool x=1;}}}", "message A{oneof o{bool x=1;}^;}", "message A{oneof o{bool x=1;}^",
		"message A{map ^int32 x=1;}",
		"message A{map<^>x=1;}", "message A{map<bool^>x=1;}", "message A{map<bool,^>x=1;}", "message A{map<bool,bool^,bool>x=1;}", "message A{map<bool,bool ^x=1;}", "message A{map<bool,^map<bool,bool>>x=1;}",
		"message A{^message B{}}", "message A{^enum E{}}", "enum E{^int32 A=1;}", "enum E{A^;}", "enum E{A=1^}", "enum E{A=^A;}", "enum E{^1=A;}", "enum E{^{}}",
	)
}

func TestP3WordsThatAreNoName(t *testing.T) {
	for _, w := range strings.Fields("message enum repeated optional oneof map int32 int64 uint32 uint64 sint32 sint64 bool fixed32 fixed64 sfixed32 sfixed64 float double string bytes") {
		wantMarked(t, api.ErrSchema,
			"message ^"+w+"{}", "enum ^"+w+"{}", "enum E{^"+w+"=1;}", "message A{bool ^"+w+"=1;}", "message A{oneof ^"+w+"{bool x=1;}}", "message A{map<bool,bool>^"+w+"=1;}")
		wantSchema(t, "message A{bool "+w+"_=1;bool _"+w+"=2;}", "A")
	}
}

func TestP3WordsAsLongAsTheyCanBe(t *testing.T) {
	wantMarked(t, api.ErrSchema,
		"message A{int32 x=0^1;}", "message A{int32 x=0^0;}", "message A{int32 x=1^x;}", "message A{int32 ^1x=1;}", "^messageA{}", "message A{int32x^=1;}",
		"message A{int32 x=1^.0;}", "message A{int32 x=^-1;}", "message A{int32 x=0^x1;}", "message A{int32 x=1^_0;}", "message A{int32 x=1 ^0;}",
	)
	wantSchema(t, "message A{int32 x1=10;}", "A")
}

func TestP3BytesThatStandNowhere(t *testing.T) {
	for c := range 256 {
		b := string([]byte{byte(c)})
		if strings.Contains(" \n_{}=;<>,", b) || '0' <= c && c <= '9' || 'a' <= c && c <= 'z' || 'A' <= c && c <= 'Z' {
			continue
		}
		for _, around := range [][2]string{{"", ""}, {"message A", "{}"}, {"message ", "A{}"}, {"message A{}", ""}, {"message A{int32 x=1", ";}"}} {
			wantError(t, around[0]+b+around[1], api.ErrSchema, len(around[0]))
		}
	}
	wantError(t, "message \u00c4{}", api.ErrSchema, 8)
	wantError(t, "message A\u00c4{}", api.ErrSchema, 9)
	wantError(t, "message A{int32 x=\u0661;}", api.ErrSchema, 18)
}

func TestP3SchemaAheadOfName(t *testing.T) {
	wantMarked(t, api.ErrSchema,
		"message A{bool x=0;}^}",
		"message A{B b=1;^",
		"message "+strings.Repeat("N", 21)+"{^1}",
		"enum A{}enum A{}enum^",
	)
}

func TestP1NilSchema(t *testing.T) {
	var s *twinwire.Schema
	if l, e := s.Messages(); len(l) != 0 || e != api.ErrNil {
		t.Errorf("Messages of nil: %q, %d", l, e)
	}
}

// TestP1EveryText: whatever is cut from a text, or put into it, Parse ends, with nothing beside an error but a place in the text.
func TestP1EveryText(t *testing.T) {
	for at := range len(allForms) {
		ahead, behind := allForms[:at], allForms[at+1:]
		checkShape(t, ahead)
		checkShape(t, allForms[at:])
		checkShape(t, ahead+behind)
		for _, w := range []string{"{", "}", "0", "99999999999999999999", " ", "\x00", "\xff", "message ", "map<", "oneof "} {
			checkShape(t, ahead+w+behind)
			checkShape(t, ahead+w+allForms[at:])
		}
	}
}

func checkShape(t *testing.T, text string) {
	t.Helper()
	s, e, at := twinwire.Parse(text)
	switch e {
	case api.OK:
		if s == nil || at != 0 {
			t.Errorf("Parse(%q): %v, OK at %d", text, s, at)
		}
	case api.ErrSchema, api.ErrName:
		if s != nil || at < 0 || at > len(text) {
			t.Errorf("Parse(%q): %v, %d at %d", text, s, e, at)
		}
	default:
		t.Errorf("Parse(%q): %d", text, e)
	}
}

func TestP1SeveralGoroutines(t *testing.T) {
	s, _, _ := twinwire.Parse(allForms)
	var all sync.WaitGroup
	for range 8 {
		all.Go(func() {
			for range 50 {
				if l, e := s.Messages(); e != api.OK || !slices.Equal(l, []string{"Every", "Other", "None"}) {
					t.Errorf("Messages: %q, %d", l, e)
				}
				wantSchema(t, "message B{C c=1;}message C{}", "B", "C")
				wantMarked(t, api.ErrName, "message B{^D c=1;}")
			}
		})
	}
	all.Wait()
}

func TestP2AnswersAreNewMemory(t *testing.T) {
	s, _, _ := twinwire.Parse("message A{}message B{}message C{}")
	first, _ := s.Messages()
	second, _ := s.Messages()
	spare := first[:cap(first)]
	for i := range spare {
		spare[i] = "changed"
	}
	_ = append(first[:1], "changed too")
	third, _ := s.Messages()
	for _, l := range [][]string{second, third} {
		if !slices.Equal(l, []string{"A", "B", "C"}) {
			t.Errorf("Messages, when another answer was changed: %q", l)
		}
	}
}

func TestP2SchemasDoNotShare(t *testing.T) {
	a, _, _ := twinwire.Parse("message A{}")
	b, _, _ := twinwire.Parse("message B{}")
	_, _, _ = twinwire.Parse("message C{")
	la, _ := a.Messages()
	lb, _ := b.Messages()
	if !slices.Equal(la, []string{"A"}) || !slices.Equal(lb, []string{"B"}) {
		t.Errorf("Messages of two schemas: %q, %q", la, lb)
	}
}

func TestExamples(t *testing.T) {
	wantSchema(t, "message A { int32 x = 1; repeated sint64 y = 2; optional string z = 3; map<string, A> m = 4; }", "A")
	wantError(t, "message A { int32 x = 0; }", api.ErrName, 22)
	wantError(t, "message A { B b = 1; } enum C { }", api.ErrName, 12)
	wantError(t, "message A { oneof o { } }", api.ErrSchema, 22)
	wantError(t, "message", api.ErrSchema, 7)
}
