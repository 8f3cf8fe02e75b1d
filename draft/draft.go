// Package draft: messages while they are being read. A draft is put together record by record, and turned into an answer once, at the end: so no record costs more for those before it.
package draft

import (
	"cmp"
	"slices"

	"twinwire/api"
)

// Message is one that is being read.
type Message struct {
	slots   []slot // by rising numbers
	unknown []byte
}

// slot is a field that has values. Only one of its lists has any.
type slot struct {
	number   int
	values   []api.Value // numbers or texts
	messages []*Message
	entries  entries
}

// Set makes a number or a text a field's only value.
func (m *Message) Set(number int, v api.Value) {
	s := m.slot(number)
	s.values = append(s.values[:0], v)
}

// SetUnlessZero is Set, but a value that is 0, or "", takes the field away.
func (m *Message) SetUnlessZero(number int, v api.Value) {
	if v.N == 0 && v.S == "" {
		m.Drop(number)
		return
	}
	m.Set(number, v)
}

// Add puts a number or a text behind a field's values.
func (m *Message) Add(number int, v api.Value) {
	s := m.slot(number)
	s.values = append(s.values, v)
}

// Message is the message that a field has; if there is none, there is an empty one now.
func (m *Message) Message(number int) *Message {
	if s := m.slot(number); len(s.messages) > 0 {
		return s.messages[0]
	}
	return m.AddMessage(number)
}

// AddMessage puts an empty message behind a field's messages, and answers it.
func (m *Message) AddMessage(number int) *Message {
	added := &Message{}
	s := m.slot(number)
	s.messages = append(s.messages, added)
	return added
}

// Drop takes fields away.
func (m *Message) Drop(numbers ...int) {
	m.slots = slices.DeleteFunc(m.slots, func(s slot) bool { return slices.Contains(numbers, s.number) })
}

// Keep puts a record behind those that fit no field.
func (m *Message) Keep(record string) {
	m.unknown = append(m.unknown, record...)
}

// Finish is the message that was read. It uses the draft up: lists of it are the answer's now.
func (m *Message) Finish() api.Msg {
	answer := api.Msg{Unknown: string(m.unknown)}
	for _, s := range m.slots {
		answer.Fields = append(answer.Fields, api.Field{Number: s.number, Values: s.finish()})
	}
	return answer
}

func (s slot) finish() []api.Value {
	values := s.values
	for _, m := range s.messages {
		values = append(values, api.Value{M: m.Finish()})
	}
	for _, m := range s.entries.inOrder() {
		values = append(values, api.Value{M: m.Finish()})
	}
	return values
}

// find tells where a field's slot is, or belongs.
func (m *Message) find(number int) (int, bool) {
	return slices.BinarySearchFunc(m.slots, number, func(s slot, n int) int { return cmp.Compare(s.number, n) })
}

// slot is a field's; whoever asks for it gives it a value. It holds until the next slot is asked for.
func (m *Message) slot(number int) *slot {
	i, ok := m.find(number)
	if !ok {
		m.slots = slices.Insert(m.slots, i, slot{number: number})
	}
	return &m.slots[i]
}
