package such

import (
	"testing"

	"twinwire/api"
	"twinwire/fault"
	"twinwire/wire"
)

// givenUp is the error that ask gives up with.
func givenUp(ask func()) (e api.Errno) {
	defer func() {
		if r := recover(); r != nil {
			e = r.(fault.Fault).Err
		}
	}()
	ask()
	return api.OK
}

func TestAlone(t *testing.T) {
	inner := api.Msg{Fields: []api.Field{{Number: 1}}}
	for _, c := range []struct {
		v                     api.Value
		number, text, message api.Errno
	}{
		{api.Value{}, api.OK, api.OK, api.OK},
		{api.Value{N: 1}, api.OK, api.ErrValue, api.ErrValue},
		{api.Value{S: "x"}, api.ErrValue, api.OK, api.ErrValue},
		{api.Value{M: inner}, api.ErrValue, api.ErrValue, api.OK},
		{api.Value{M: api.Msg{Unknown: "x"}}, api.ErrValue, api.ErrValue, api.OK},
		{api.Value{M: api.Msg{Fields: []api.Field{}}}, api.OK, api.OK, api.OK},
	} {
		number, text, message := givenUp(func() { NumberAlone(c.v) }), givenUp(func() { TextAlone(c.v) }), givenUp(func() { MessageAlone(c.v) })
		if number != c.number || text != c.text || message != c.message {
			t.Errorf("%v: %d, %d, %d", c.v, number, text, message)
		}
	}
}

func TestNext(t *testing.T) {
	ahead := []api.Field{{Number: 2}, {Number: 5}}
	for number, want := range map[int]api.Errno{6: api.OK, 5: api.ErrValue, 4: api.ErrValue, 1: api.ErrValue} {
		if got := givenUp(func() { Next(ahead, number, []int{1, 9}) }); got != want {
			t.Errorf("Next(%d): %d", number, got)
		}
	}
	for _, rival := range []int{2, 5} {
		if got := givenUp(func() { Next(ahead, 6, []int{9, rival}) }); got != api.ErrValue {
			t.Errorf("Next with the rival %d ahead: %d", rival, got)
		}
	}
}

func TestUnknown(t *testing.T) {
	fits := func(tag wire.Tag) bool { return tag == wire.Tag{Number: 1, Kind: wire.Varied} }
	for b, want := range map[string]api.Errno{"": api.OK, "\x10\x01": api.OK, "\x0a\x00\x10\x01": api.OK, "\x08\x01": api.ErrValue, "\x10\x01\x08\x01": api.ErrValue, "\x08": api.ErrValue, "\x10": api.ErrCut, "\x00": api.ErrNumber} {
		if got := givenUp(func() { Unknown(b, fits) }); got != want {
			t.Errorf("Unknown(%x): %d, want %d", b, got, want)
		}
	}
}
