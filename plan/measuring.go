package plan

import (
	"twinwire/api"
	"twinwire/model"
	"twinwire/wire"
)

// makeMeasuring makes what a field's step measures by; in is the plan of the messages that its values are.
func makeMeasuring(f *model.Field, in *Plan) measuring {
	tag, all := f.Tag().Size(), valuesMeasuring(f.Type, in)
	if f.Packs() {
		return func(values []api.Value) int { return tag + wire.LongSize(all(values)) }
	}
	return func(values []api.Value) int { return tag*len(values) + all(values) }
}

// valuesMeasuring makes what measures values without their tags.
func valuesMeasuring(t model.Type, in *Plan) measuring {
	value := valueMeasuring(t, in)
	return func(values []api.Value) int {
		size := 0
		for _, v := range values {
			size += value(v)
		}
		return size
	}
}

func valueMeasuring(t model.Type, in *Plan) func(api.Value) int {
	switch t.Base {
	case model.Nested:
		return func(v api.Value) int { return wire.LongSize(in.measureMessage(v.M)) }
	case model.String, model.Bytes:
		return func(v api.Value) int { return wire.LongSize(len(v.S)) }
	case model.Sint32, model.Sint64:
		return func(v api.Value) int { return wire.VarintSize(wire.ToZigzag(v.N)) }
	}
	switch t.Wire() {
	case wire.Four:
		return func(api.Value) int { return wire.FourSize }
	case wire.Eight:
		return func(api.Value) int { return wire.EightSize }
	}
	return func(v api.Value) int { return wire.VarintSize(v.N) }
}
