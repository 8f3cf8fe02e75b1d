package keys

import (
	"testing"

	"twinwire/api"
)

func TestCompare(t *testing.T) {
	number := func(n int) api.Value { return api.Value{N: uint64(n)} }
	text := func(s string) api.Value { return api.Value{S: s} }
	for _, c := range []struct {
		signed bool
		rising []api.Value
	}{
		{true, []api.Value{number(-1 << 63), number(-2), number(-1), number(0), number(1), number(1<<63 - 1)}},
		{false, []api.Value{number(0), number(1), number(1<<63 - 1), number(-1 << 63), number(-1)}},
		{false, []api.Value{text(""), text("\x00"), text("a"), text("a\x00"), text("aa"), text("b"), text("\xff")}},
	} {
		for i, a := range c.rising {
			for j, b := range c.rising {
				got := Compare(Of(a, c.signed), Of(b, c.signed))
				if got < 0 != (i < j) || got > 0 != (i > j) {
					t.Errorf("Compare(%v, %v), signed %t: %d", a, b, c.signed, got)
				}
			}
		}
	}
}
