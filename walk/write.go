package walk

import (
	"twinwire/api"
	"twinwire/model"
	"twinwire/wire"
)

// Write is a message's bytes; it gives up (see fault), if the message is not such.
func Write(m *model.Message, v api.Msg) string {
	w := wire.NewWriter(Measure(m, v))
	writeMessage(m, v, w)
	return w.Written()
}

// writeMessage, and all from here on, is for what is such.
func writeMessage(m *model.Message, v api.Msg, w *wire.Writer) {
	for _, field := range v.Fields {
		writeField(m.Field(field.Number), field.Values, w)
	}
	w.Records(v.Unknown)
}

func writeField(f *model.Field, values []api.Value, w *wire.Writer) {
	if f.Packs() {
		w.Tag(f.Tag())
		w.Length(measureValues(f.Type, values))
	}
	for _, v := range values {
		if !f.Packs() {
			w.Tag(f.Tag())
		}
		writeValue(f.Type, v, w)
	}
}

func writeValue(t model.Type, v api.Value, w *wire.Writer) {
	switch t.Base {
	case model.Nested:
		w.Length(measureMessage(t.Message, v.M))
		writeMessage(t.Message, v.M, w)
	case model.String, model.Bytes:
		w.Bytes(v.S)
	case model.Fixed32, model.Sfixed32, model.Float:
		w.Four(v.N)
	case model.Fixed64, model.Sfixed64, model.Double:
		w.Eight(v.N)
	case model.Sint32, model.Sint64:
		w.Varint(wire.ToZigzag(v.N))
	default:
		w.Varint(v.N)
	}
}
