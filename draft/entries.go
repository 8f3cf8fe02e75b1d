package draft

import (
	"cmp"
	"maps"
	"slices"

	"twinwire/api"
	"twinwire/model"
)

// key is an entry's, made so that keys of one map rise as their numbers, and then their texts, do.
type key struct {
	number uint64
	text   string
}

type entries map[key]*Message

// signBit turned over makes numbers with a sign rise as those without one.
const signBit = 1 << 63

// PutEntry makes an entry that was read one of a map's, in place of the one with the same key.
func (m *Message) PutEntry(number int, signed bool, entry *Message) {
	entry.complete()
	s := m.slot(number)
	if s.entries == nil {
		s.entries = entries{}
	}
	s.entries[entry.key(signed)] = entry
}

// complete makes an entry one that lacks nothing, and has no unknown records.
func (m *Message) complete() {
	m.unknown = nil
	for _, number := range []int{model.KeyNumber, model.ValueNumber} {
		if _, ok := m.find(number); !ok {
			m.Set(number, api.Value{}) // which is 0, "", and a message without fields
		}
	}
}

func (m *Message) key(signed bool) key {
	v := m.slot(model.KeyNumber).values[0]
	if signed {
		return key{v.N ^ signBit, v.S}
	}
	return key{v.N, v.S}
}

func (e entries) inOrder() []*Message {
	var messages []*Message
	for _, k := range slices.SortedFunc(maps.Keys(e), compareKeys) {
		messages = append(messages, e[k])
	}
	return messages
}

func compareKeys(a, b key) int {
	return cmp.Or(cmp.Compare(a.number, b.number), cmp.Compare(a.text, b.text))
}
