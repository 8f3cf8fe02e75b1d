package walk

import (
	"unicode/utf8"

	"twinwire/api"
	"twinwire/model"
	"twinwire/schema"
	"twinwire/such"
	"twinwire/wire"
)

// checkMessage gives up, if a message is not such. It looks at how deep it is first: lists may lead back to themselves.
func checkMessage(m *model.Message, v api.Msg, deep int) {
	such.Need(deep <= api.MaxDeep)
	for i, field := range v.Fields {
		f := m.Field(field.Number)
		such.Need(f != nil)
		such.Next(v.Fields[:i], f.Number, f.Rivals)
		checkField(f, field.Values, deep)
	}
	such.Unknown(v.Unknown, func(t wire.Tag) bool { return fitting(m, t) != nil })
}

func checkField(f *model.Field, values []api.Value, deep int) {
	many := f.Form == schema.Repeated || f.Form == schema.Map
	such.Need(len(values) == 1 || many && len(values) > 1)
	for _, v := range values {
		checkValue(f.Type, v, deep)
	}
	switch {
	case f.Form == schema.Map:
		such.Entries(values, f.Key().IsSigned())
	case f.Form == schema.Single && f.Type.Base != model.Nested:
		such.NotZero(values[0])
	}
}

// checkValue gives up, if a value is none of a type; deep is of the message that it is in.
func checkValue(t model.Type, v api.Value, deep int) {
	switch t.Base {
	case model.Nested:
		such.MessageAlone(v)
		checkMessage(t.Message, v.M, deep+1)
	case model.String:
		such.TextAlone(v)
		such.Need(utf8.ValidString(v.S))
	case model.Bytes:
		such.TextAlone(v)
	default:
		such.NumberAlone(v)
		such.Need(isNumberOf(t.Base, v.N))
	}
}

func isNumberOf(b model.Base, n uint64) bool {
	switch b {
	case model.Int32, model.Sint32, model.Sfixed32, model.Enum:
		return n == wire.Signed32(n)
	case model.Uint32, model.Fixed32, model.Float:
		return n == wire.Low32(n)
	case model.Bool:
		return n == wire.Truth(n)
	}
	return true
}
