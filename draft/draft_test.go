package draft

import (
	"reflect"
	"testing"

	"twinwire/api"
)

func TestFinish(t *testing.T) {
	m := &Message{}
	m.Set(7, api.Value{N: 1})
	m.Add(3, api.Value{S: "a"})
	m.Add(3, api.Value{})
	m.Set(7, api.Value{N: 2})
	m.Message(5).Keep("x")
	m.Message(5).Keep("y")
	m.AddMessage(5)
	m.SetUnlessZero(9, api.Value{S: "b"})
	m.SetUnlessZero(9, api.Value{})
	m.SetUnlessZero(8, api.Value{N: 1})
	m.Set(1, api.Value{})
	m.Set(2, api.Value{})
	m.Drop(2, 4, 8)
	m.Keep("u")
	want := api.Msg{Unknown: "u", Fields: []api.Field{
		{Number: 1, Values: []api.Value{{}}},
		{Number: 3, Values: []api.Value{{S: "a"}, {}}},
		{Number: 5, Values: []api.Value{{M: api.Msg{Unknown: "xy"}}, {}}},
		{Number: 7, Values: []api.Value{{N: 2}}},
	}}
	if got := m.Finish(); !reflect.DeepEqual(got, want) {
		t.Errorf("Finish: %v, want %v", got, want)
	}
}

func TestPutEntry(t *testing.T) {
	m := &Message{}
	for i, n := range []uint64{1, 1<<64 - 1, 0, 1} {
		entry := &Message{}
		entry.Set(1, api.Value{N: n})
		entry.Set(2, api.Value{N: uint64(i)})
		entry.Keep("u")
		m.PutEntry(4, true, entry)
	}
	m.PutEntry(6, false, &Message{})
	pair := func(k, v uint64) api.Value {
		return api.Value{M: api.Msg{Fields: []api.Field{{Number: 1, Values: []api.Value{{N: k}}}, {Number: 2, Values: []api.Value{{N: v}}}}}}
	}
	want := api.Msg{Fields: []api.Field{
		{Number: 4, Values: []api.Value{pair(1<<64-1, 1), pair(0, 2), pair(1, 3)}},
		{Number: 6, Values: []api.Value{pair(0, 0)}},
	}}
	if got := m.Finish(); !reflect.DeepEqual(got, want) {
		t.Errorf("Finish: %v, want %v", got, want)
	}
}
