package plan

import (
	"unicode/utf8"

	"twinwire/api"
	"twinwire/model"
	"twinwire/schema"
	"twinwire/such"
	"twinwire/wire"
)

// makeChecking makes what a field's step checks by; in is the plan of the messages that its values are.
func makeChecking(f *model.Field, in *Plan) checking {
	value := valueChecking(f.Type, in)
	switch {
	case f.Form == schema.Map:
		return entriesChecking(value, f.Key().IsSigned())
	case f.Form == schema.Repeated:
		return eachChecking(value)
	case f.Form == schema.Single && f.Type.Base != model.Nested:
		return loneChecking(func(v api.Value, deep int) {
			such.NotZero(v)
			value(v, deep)
		})
	}
	return loneChecking(value)
}

// loneChecking is for one value.
func loneChecking(value func(api.Value, int)) checking {
	return func(values []api.Value, deep int) {
		such.Need(len(values) == 1)
		value(values[0], deep)
	}
}

// eachChecking is for one value at least.
func eachChecking(value func(api.Value, int)) checking {
	return func(values []api.Value, deep int) {
		such.Need(len(values) > 0)
		for _, v := range values {
			value(v, deep)
		}
	}
}

func entriesChecking(value func(api.Value, int), signed bool) checking {
	each := eachChecking(value)
	return func(values []api.Value, deep int) {
		each(values, deep)
		such.Entries(values, signed)
	}
}

// valueChecking makes what gives up, if a value is none of a type.
func valueChecking(t model.Type, in *Plan) func(v api.Value, deep int) {
	switch t.Base {
	case model.Nested:
		return func(v api.Value, deep int) {
			such.MessageAlone(v)
			in.checkMessage(v.M, deep+1)
		}
	case model.String:
		return func(v api.Value, _ int) {
			such.TextAlone(v)
			such.Need(utf8.ValidString(v.S))
		}
	case model.Bytes:
		return func(v api.Value, _ int) { such.TextAlone(v) }
	}
	cut := numberCut(t.Base)
	return func(v api.Value, _ int) {
		such.NumberAlone(v)
		such.Need(cut(v.N) == v.N)
	}
}

// numberCut makes what cuts a number to one of a type: those of the type stay as they are.
func numberCut(b model.Base) func(uint64) uint64 {
	switch b {
	case model.Int32, model.Sint32, model.Sfixed32, model.Enum:
		return wire.Signed32
	case model.Uint32, model.Fixed32, model.Float:
		return wire.Low32
	case model.Bool:
		return wire.Truth
	}
	return func(n uint64) uint64 { return n }
}
