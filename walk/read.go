// Package walk: messages read, measured and written by going through the schema, each time.
package walk

import (
	"twinwire/api"
	"twinwire/draft"
	"twinwire/model"
	"twinwire/schema"
	"twinwire/wire"
)

// Read reads a message of a type, or gives up (see fault).
func Read(m *model.Message, b string) api.Msg {
	into := &draft.Message{}
	readMessage(m, wire.NewReader(b), into)
	return into.Finish()
}

// readMessage reads all records of a message into a draft of it.
func readMessage(m *model.Message, r *wire.Reader, into *draft.Message) {
	for r.More() {
		start := r.At()
		tag := r.Tag()
		if f := fitting(m, tag); f != nil {
			readRecord(f, tag.Kind, r, into)
			continue
		}
		r.Skip(tag.Kind)
		into.Keep(r.Since(start))
	}
}

// fitting is the field that a record with that tag fits, or nil.
func fitting(m *model.Message, t wire.Tag) *model.Field {
	if f := m.Field(t.Number); f != nil && f.Fits(t.Kind) {
		return f
	}
	return nil
}

// readRecord reads a record that fits a field.
func readRecord(f *model.Field, kind wire.Kind, r *wire.Reader, into *draft.Message) {
	into.Drop(f.Rivals...)
	switch {
	case f.Form == schema.Map:
		entry := &draft.Message{}
		readMessage(f.Type.Message, r.Message(f.Levels()), entry)
		into.PutEntry(f.Number, f.Key().IsSigned(), entry)
	case f.Type.Base == model.Nested && f.Form == schema.Repeated:
		readMessage(f.Type.Message, r.Message(f.Levels()), into.AddMessage(f.Number))
	case f.Type.Base == model.Nested:
		readMessage(f.Type.Message, r.Message(f.Levels()), into.Message(f.Number))
	case f.Form == schema.Repeated:
		readRepeated(f, kind, r, into)
	case f.Form == schema.Single:
		into.SetUnlessZero(f.Number, readValue(f.Type, r))
	default:
		into.Set(f.Number, readValue(f.Type, r))
	}
}

// readRepeated reads a record of one number or text, or of packed numbers.
func readRepeated(f *model.Field, kind wire.Kind, r *wire.Reader, into *draft.Message) {
	if kind == f.Type.Wire() {
		into.Add(f.Number, readValue(f.Type, r))
		return
	}
	for packed := r.Within(); packed.More(); {
		into.Add(f.Number, readValue(f.Type, packed))
	}
}

// readValue reads a number or a text.
func readValue(t model.Type, r *wire.Reader) api.Value {
	switch t.Base {
	case model.String:
		return api.Value{S: r.Text()}
	case model.Bytes:
		return api.Value{S: r.Bytes()}
	}
	return api.Value{N: readNumber(t.Base, r)}
}

func readNumber(b model.Base, r *wire.Reader) uint64 {
	switch b {
	case model.Int32, model.Enum:
		return wire.Signed32(r.Varint())
	case model.Uint32:
		return wire.Low32(r.Varint())
	case model.Sint32:
		return wire.FromZigzag32(r.Varint())
	case model.Sint64:
		return wire.FromZigzag64(r.Varint())
	case model.Bool:
		return wire.Truth(r.Varint())
	case model.Fixed32, model.Float:
		return r.Four()
	case model.Sfixed32:
		return wire.Signed32(r.Four())
	case model.Fixed64, model.Sfixed64, model.Double:
		return r.Eight()
	}
	return r.Varint()
}
