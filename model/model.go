// Package model: the messages of a schema, with what the bytes ask of them: fields by their numbers, and types looked up.
package model

import (
	"cmp"
	"slices"

	"twinwire/schema"
	"twinwire/wire"
)

// Message is a message type, or that of a map's entries.
type Message struct {
	Name   string   // of entries ""
	Fields []*Field // by rising numbers
}

// Field is one of a message. A map's type is that of its entries.
type Field struct {
	Number int
	Form   schema.Form
	Type   Type
	Rivals []int // the numbers of its oneof's other fields
}

// Type is what a value is of; Message is nil but of Nested.
type Type struct {
	Base    Base
	Message *Message
}

// Base tells types apart, but for which message or enum one is.
type Base int

const (
	Int32 Base = iota
	Int64
	Uint32
	Uint64
	Sint32
	Sint64
	Bool
	Fixed32
	Fixed64
	Sfixed32
	Sfixed64
	Float
	Double
	String
	Bytes
	Enum
	Nested
)

// The numbers of an entry's fields.
const (
	KeyNumber   = 1
	ValueNumber = 2
)

// Field is the field of that number, or nil.
func (m *Message) Field(number int) *Field {
	i, ok := slices.BinarySearchFunc(m.Fields, number, func(f *Field, n int) int { return cmp.Compare(f.Number, n) })
	if !ok {
		return nil
	}
	return m.Fields[i]
}

// Fits tells whether a record of that kind, with the field's number, fits the field.
func (f *Field) Fits(kind wire.Kind) bool {
	return kind == f.Type.Wire() || kind == wire.Long && f.Packs()
}

// Packs tells whether a record may hold several of the field's values.
func (f *Field) Packs() bool { return f.Form == schema.Repeated && f.Type.IsNumber() }

// Tag is the one that the field's records are written with.
func (f *Field) Tag() wire.Tag {
	if f.Packs() {
		return wire.Tag{Number: f.Number, Kind: wire.Long}
	}
	return wire.Tag{Number: f.Number, Kind: f.Type.Wire()}
}

// Levels is how many messages in one another a value of the field has at least: an entry has the message that its field 2 is, be there a record of it or not.
func (f *Field) Levels() int {
	switch {
	case f.Form == schema.Map && f.Type.Message.Field(ValueNumber).Type.Base == Nested:
		return 2
	case f.Type.Base == Nested:
		return 1
	}
	return 0
}

// Key is the type of a map's keys.
func (f *Field) Key() Type { return f.Type.Message.Field(KeyNumber).Type }

// IsNumber tells whether values are numbers.
func (t Type) IsNumber() bool { return t.Base <= Double || t.Base == Enum }

// IsSigned tells whether values are numbers with a sign.
func (t Type) IsSigned() bool {
	switch t.Base {
	case Int32, Int64, Sint32, Sint64, Sfixed32, Sfixed64, Enum:
		return true
	}
	return false
}

// Wire is the kind of a record of one value.
func (t Type) Wire() wire.Kind {
	switch t.Base {
	case Fixed32, Sfixed32, Float:
		return wire.Four
	case Fixed64, Sfixed64, Double:
		return wire.Eight
	case String, Bytes, Nested:
		return wire.Long
	}
	return wire.Varied
}
