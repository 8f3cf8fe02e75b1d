// Package such: what is asked of a message that is to be written, as far as both ways ask it alike. Where it is not so, they give up (see fault).
package such

import (
	"slices"

	"twinwire/api"
	"twinwire/fault"
	"twinwire/keys"
	"twinwire/wire"
)

// Need gives up, unless something is as it must be.
func Need(ok bool) {
	if !ok {
		fault.GiveUp(api.ErrValue, 0)
	}
}

// NumberAlone needs a value to be empty in all but its number.
func NumberAlone(v api.Value) { Need(v.S == "" && len(v.M.Fields) == 0 && v.M.Unknown == "") }

// TextAlone needs a value to be empty in all but its text.
func TextAlone(v api.Value) { Need(v.N == 0 && len(v.M.Fields) == 0 && v.M.Unknown == "") }

// MessageAlone needs a value to be empty in all but its message.
func MessageAlone(v api.Value) { Need(v.N == 0 && v.S == "") }

// NotZero needs a number not to be 0, a text not to be "".
func NotZero(v api.Value) { Need(v.N != 0 || v.S != "") }

// Next needs a field's number to be above those ahead of it, and none of these to be of its oneof.
func Next(ahead []api.Field, number int, rivals []int) {
	for _, f := range ahead {
		Need(f.Number < number && !slices.Contains(rivals, f.Number))
	}
}

// Entries needs a map's entries to lack nothing, and to rise by their keys. Each of them must have been looked at as a message already.
func Entries(entries []api.Value, signed bool) {
	var last keys.Key
	for i, e := range entries {
		Need(len(e.M.Fields) == 2 && e.M.Unknown == "")
		key := keys.Of(e.M.Fields[0].Values[0], signed)
		Need(i == 0 || keys.Compare(last, key) < 0)
		last = key
	}
}

// Unknown needs bytes to be records that fit no field.
func Unknown(b string, fits func(wire.Tag) bool) {
	for r := wire.NewReader(b); r.More(); {
		tag := r.Tag()
		Need(!fits(tag))
		r.Skip(tag.Kind)
	}
}
