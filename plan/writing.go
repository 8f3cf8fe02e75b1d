package plan

import (
	"twinwire/api"
	"twinwire/model"
	"twinwire/wire"
)

// makeWriting makes what a field's step writes by; in is the plan of the messages that its values are.
func makeWriting(f *model.Field, in *Plan) writing {
	if f.Packs() {
		return packedWriting(f)
	}
	tag, value := f.Tag(), valueWriting(f.Type, in)
	return func(values []api.Value, w *wire.Writer) {
		for _, v := range values {
			w.Tag(tag)
			value(v, w)
		}
	}
}

// packedWriting is for numbers in one record.
func packedWriting(f *model.Field) writing {
	tag, length, value := f.Tag(), valuesMeasuring(f.Type, nil), valueWriting(f.Type, nil)
	return func(values []api.Value, w *wire.Writer) {
		w.Tag(tag)
		w.Length(length(values))
		for _, v := range values {
			value(v, w)
		}
	}
}

func valueWriting(t model.Type, in *Plan) func(api.Value, *wire.Writer) {
	switch t.Base {
	case model.Nested:
		return func(v api.Value, w *wire.Writer) {
			w.Length(in.measureMessage(v.M))
			in.writeMessage(v.M, w)
		}
	case model.String, model.Bytes:
		return func(v api.Value, w *wire.Writer) { w.Bytes(v.S) }
	case model.Sint32, model.Sint64:
		return func(v api.Value, w *wire.Writer) { w.Varint(wire.ToZigzag(v.N)) }
	}
	switch t.Wire() {
	case wire.Four:
		return func(v api.Value, w *wire.Writer) { w.Four(v.N) }
	case wire.Eight:
		return func(v api.Value, w *wire.Writer) { w.Eight(v.N) }
	}
	return func(v api.Value, w *wire.Writer) { w.Varint(v.N) }
}
