package plan

import (
	"twinwire/api"
	"twinwire/draft"
	"twinwire/model"
	"twinwire/schema"
	"twinwire/wire"
)

// makeReading makes what a field's step reads by; in is the plan of the messages that its values are.
func makeReading(f *model.Field, in *Plan) reading {
	read := fieldReading(f, in)
	if len(f.Rivals) == 0 {
		return read
	}
	rivals := f.Rivals
	return func(kind wire.Kind, r *wire.Reader, into *draft.Message) {
		into.Drop(rivals...)
		read(kind, r, into)
	}
}

func fieldReading(f *model.Field, in *Plan) reading {
	switch {
	case f.Form == schema.Map:
		return entryReading(f, in)
	case f.Type.Base == model.Nested:
		return messageReading(f, in)
	case f.Packs():
		return packedReading(f)
	}
	return valueReading(f)
}

func entryReading(f *model.Field, in *Plan) reading {
	number, levels, signed := f.Number, f.Levels(), f.Key().IsSigned()
	return func(_ wire.Kind, r *wire.Reader, into *draft.Message) {
		entry := &draft.Message{}
		in.readInto(r.Message(levels), entry)
		into.PutEntry(number, signed, entry)
	}
}

func messageReading(f *model.Field, in *Plan) reading {
	number, levels := f.Number, f.Levels()
	place := (*draft.Message).Message
	if f.Form == schema.Repeated {
		place = (*draft.Message).AddMessage
	}
	return func(_ wire.Kind, r *wire.Reader, into *draft.Message) {
		in.readInto(r.Message(levels), place(into, number))
	}
}

// packedReading is for a record of one number, or of packed ones.
func packedReading(f *model.Field) reading {
	value, number, alone := valueOf(f.Type), f.Number, f.Type.Wire()
	return func(kind wire.Kind, r *wire.Reader, into *draft.Message) {
		if kind == alone {
			into.Add(number, value(r))
			return
		}
		for packed := r.Within(); packed.More(); {
			into.Add(number, value(packed))
		}
	}
}

// valueReading is for a record of one number or text.
func valueReading(f *model.Field) reading {
	value, number := valueOf(f.Type), f.Number
	put := (*draft.Message).Set
	switch f.Form {
	case schema.Single:
		put = (*draft.Message).SetUnlessZero
	case schema.Repeated:
		put = (*draft.Message).Add
	}
	return func(_ wire.Kind, r *wire.Reader, into *draft.Message) {
		put(into, number, value(r))
	}
}

// valueOf makes what reads a number or a text of a type.
func valueOf(t model.Type) func(*wire.Reader) api.Value {
	switch t.Base {
	case model.String:
		return func(r *wire.Reader) api.Value { return api.Value{S: r.Text()} }
	case model.Bytes:
		return func(r *wire.Reader) api.Value { return api.Value{S: r.Bytes()} }
	}
	number := numberOf(t.Base)
	return func(r *wire.Reader) api.Value { return api.Value{N: number(r)} }
}

// numberOf makes what reads a number: bits, of which some types make another number.
func numberOf(b model.Base) func(*wire.Reader) uint64 {
	varint, four := (*wire.Reader).Varint, (*wire.Reader).Four
	switch b {
	case model.Int32, model.Enum:
		return turned(varint, wire.Signed32)
	case model.Uint32:
		return turned(varint, wire.Low32)
	case model.Sint32:
		return turned(varint, wire.FromZigzag32)
	case model.Sint64:
		return turned(varint, wire.FromZigzag64)
	case model.Bool:
		return turned(varint, wire.Truth)
	case model.Fixed32, model.Float:
		return four
	case model.Sfixed32:
		return turned(four, wire.Signed32)
	case model.Fixed64, model.Sfixed64, model.Double:
		return (*wire.Reader).Eight
	}
	return varint
}

// turned reads bits, and answers the number that they tell.
func turned(bits func(*wire.Reader) uint64, number func(uint64) uint64) func(*wire.Reader) uint64 {
	return func(r *wire.Reader) uint64 { return number(bits(r)) }
}
