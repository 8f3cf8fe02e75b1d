package model

import (
	"cmp"
	"slices"

	"twinwire/schema"
)

var baseWords = [...]string{
	Int32: "int32", Int64: "int64", Uint32: "uint32", Uint64: "uint64", Sint32: "sint32", Sint64: "sint64", Bool: "bool",
	Fixed32: "fixed32", Fixed64: "fixed64", Sfixed32: "sfixed32", Sfixed64: "sfixed64", Float: "float", Double: "double",
	String: "string", Bytes: "bytes",
}

// byName has a schema's messages; any other NAME that is a type is an enum's.
type byName map[string]*Message

// Build makes the messages of a tree that Read answered, in its order.
func Build(t schema.Tree) []*Message {
	known := byName{}
	var messages []*Message
	for _, name := range t.MessageNames() {
		m := &Message{Name: name}
		known[name] = m
		messages = append(messages, m)
	}
	for _, b := range t.Blocks {
		if !b.Enum {
			known[b.Name.Text].Fields = known.fields(b)
		}
	}
	return messages
}

func (known byName) fields(b schema.Block) []*Field {
	var fields []*Field
	for _, p := range b.Parts {
		for _, f := range p.Fields {
			fields = append(fields, &Field{number(f), f.Form, known.fieldType(f), rivals(p, f)})
		}
	}
	slices.SortFunc(fields, func(a, b *Field) int { return cmp.Compare(a.Number, b.Number) })
	return fields
}

func number(f schema.Field) int { return int(f.Number.Value()) }

// rivals tells the numbers of the other fields of a field's part: a field by itself has none.
func rivals(p schema.Part, f schema.Field) []int {
	var others []int
	for _, o := range p.Fields {
		if number(o) != number(f) {
			others = append(others, number(o))
		}
	}
	return others
}

func (known byName) fieldType(f schema.Field) Type {
	if f.Form == schema.Map {
		return Type{Nested, entry(known.typeOf(f.Key), known.typeOf(f.Type))}
	}
	return known.typeOf(f.Type)
}

func entry(key, value Type) *Message {
	return &Message{Fields: []*Field{
		{Number: KeyNumber, Form: schema.Optional, Type: key},
		{Number: ValueNumber, Form: schema.Optional, Type: value},
	}}
}

func (known byName) typeOf(w schema.Word) Type {
	if w.Kind == schema.Builtin {
		return Type{Base: baseOf(w.Text)}
	}
	if m := known[w.Text]; m != nil {
		return Type{Nested, m}
	}
	return Type{Base: Enum}
}

// baseOf tells the type of a word of the grammar's own.
func baseOf(word string) Base {
	base := 0
	for i, w := range baseWords {
		if w == word {
			base = i
		}
	}
	return Base(base)
}
