package model

import (
	"reflect"
	"testing"

	"twinwire/schema"
	"twinwire/wire"
)

const text = "message B { map<sint64,A> m=9; oneof o { int32 x=5; A y=1; E z=3; } repeated fixed32 r=2; map<string,E> n=4; } enum E { } message A { B b=1; bytes c=2; repeated string d=3; }"

func TestBuild(t *testing.T) {
	messages := Build(schema.Read(text))
	if len(messages) != 2 || messages[0].Name != "B" || messages[1].Name != "A" {
		t.Fatalf("%d messages", len(messages))
	}
	b, a := messages[0], messages[1]
	var numbers []int
	for _, f := range b.Fields {
		numbers = append(numbers, f.Number)
	}
	if !reflect.DeepEqual(numbers, []int{1, 2, 3, 4, 5, 9}) {
		t.Errorf("numbers %v", numbers)
	}
	if y := b.Field(1); y.Form != schema.OfOneof || y.Type != (Type{Nested, a}) || !reflect.DeepEqual(y.Rivals, []int{5, 3}) {
		t.Errorf("y: %v", y)
	}
	if a.Field(1).Type.Message != b || a.Field(1).Rivals != nil || b.Field(3).Type.Base != Enum || b.Field(8) != nil {
		t.Error("types that were looked up")
	}
	if m := b.Field(9); m.Key().Base != Sint64 || !m.Key().IsSigned() || m.Levels() != 2 || m.Type.Message.Field(ValueNumber).Type.Message != a {
		t.Error("a map of messages")
	}
	if n := b.Field(4); n.Key().IsSigned() || n.Levels() != 1 || a.Field(1).Levels() != 1 || a.Field(2).Levels() != 0 {
		t.Error("levels")
	}
}

func TestFits(t *testing.T) {
	messages := Build(schema.Read(text))
	b, a := messages[0], messages[1]
	for _, c := range []struct {
		f     *Field
		kinds []wire.Kind
	}{
		{b.Field(1), []wire.Kind{wire.Long}},
		{b.Field(2), []wire.Kind{wire.Long, wire.Four}},
		{b.Field(3), []wire.Kind{wire.Varied}},
		{b.Field(4), []wire.Kind{wire.Long}},
		{a.Field(2), []wire.Kind{wire.Long}},
		{a.Field(3), []wire.Kind{wire.Long}},
	} {
		var kinds []wire.Kind
		for _, k := range []wire.Kind{wire.Varied, wire.Eight, wire.Long, wire.Four} {
			if c.f.Fits(k) {
				kinds = append(kinds, k)
			}
		}
		if !reflect.DeepEqual(kinds, c.kinds) {
			t.Errorf("field %d fits %v, want %v", c.f.Number, kinds, c.kinds)
		}
	}
}

func TestTag(t *testing.T) {
	messages := Build(schema.Read(text))
	for number, kind := range map[int]wire.Kind{1: wire.Long, 2: wire.Long, 3: wire.Varied, 4: wire.Long, 5: wire.Varied, 9: wire.Long} {
		if got := messages[0].Field(number).Tag(); got != (wire.Tag{Number: number, Kind: kind}) {
			t.Errorf("field %d is written with %v", number, got)
		}
	}
}

func TestBases(t *testing.T) {
	for base, word := range baseWords {
		f := Build(schema.Read("message A { " + word + " a=1; }"))[0].Field(1)
		if f.Type != (Type{Base: Base(base)}) || f.Type.IsNumber() != (word != "string" && word != "bytes") {
			t.Errorf("%s: %v", word, f.Type)
		}
	}
}
