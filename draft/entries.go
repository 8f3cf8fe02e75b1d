package draft

import (
	"maps"
	"slices"

	"twinwire/api"
	"twinwire/keys"
	"twinwire/model"
)

type entries map[keys.Key]*Message

// PutEntry makes an entry that was read one of a map's, in place of the one with the same key.
func (m *Message) PutEntry(number int, signed bool, entry *Message) {
	entry.complete()
	s := m.slot(number)
	if s.entries == nil {
		s.entries = entries{}
	}
	s.entries[keys.Of(entry.slot(model.KeyNumber).values[0], signed)] = entry
}

// complete makes an entry one that lacks nothing, and has no unknown records.
func (m *Message) complete() {
	m.unknown = nil
	for _, number := range []int{model.KeyNumber, model.ValueNumber} {
		if _, ok := m.find(number); !ok {
			m.Set(number, api.Value{}) // which is 0, "", and a message without fields
		}
	}
}

func (e entries) inOrder() []*Message {
	var messages []*Message
	for _, k := range slices.SortedFunc(maps.Keys(e), keys.Compare) {
		messages = append(messages, e[k])
	}
	return messages
}
