// Package keys: the order of a map's entries.
package keys

import (
	"cmp"

	"twinwire/api"
)

// Key is an entry's, made so that keys of one map rise as their numbers, and then their texts, do.
type Key struct {
	number uint64
	text   string
}

// signBit turned over makes numbers with a sign rise as those without one.
const signBit = 1 << 63

// Of is the key that a number or a text is; signed tells whether it is a number with a sign.
func Of(v api.Value, signed bool) Key {
	if signed {
		return Key{v.N ^ signBit, v.S}
	}
	return Key{v.N, v.S}
}

// Compare is below 0, if a comes ahead of b, 0, if they are the same, else above 0.
func Compare(a, b Key) int {
	return cmp.Or(cmp.Compare(a.number, b.number), cmp.Compare(a.text, b.text))
}
