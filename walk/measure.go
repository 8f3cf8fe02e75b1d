package walk

import (
	"twinwire/api"
	"twinwire/model"
	"twinwire/wire"
)

// Measure is how many bytes Write answers; it gives up where Write does.
func Measure(m *model.Message, v api.Msg) int {
	checkMessage(m, v, 1)
	return measureMessage(m, v)
}

// measureMessage, and all from here on, is for what is such.
func measureMessage(m *model.Message, v api.Msg) int {
	size := len(v.Unknown)
	for _, field := range v.Fields {
		size += measureField(m.Field(field.Number), field.Values)
	}
	return size
}

func measureField(f *model.Field, values []api.Value) int {
	tag := f.Tag().Size()
	if f.Packs() {
		return tag + wire.LongSize(measureValues(f.Type, values))
	}
	return tag*len(values) + measureValues(f.Type, values)
}

func measureValues(t model.Type, values []api.Value) int {
	size := 0
	for _, v := range values {
		size += measureValue(t, v)
	}
	return size
}

func measureValue(t model.Type, v api.Value) int {
	switch t.Base {
	case model.Nested:
		return wire.LongSize(measureMessage(t.Message, v.M))
	case model.String, model.Bytes:
		return wire.LongSize(len(v.S))
	case model.Fixed32, model.Sfixed32, model.Float:
		return wire.FourSize
	case model.Fixed64, model.Sfixed64, model.Double:
		return wire.EightSize
	case model.Sint32, model.Sint64:
		return wire.VarintSize(wire.ToZigzag(v.N))
	}
	return wire.VarintSize(v.N)
}
