// Package twinwire: messages in bytes, by a schema: see DOC.md.
package twinwire

import (
	"twinwire/api"
	"twinwire/fault"
	"twinwire/model"
	"twinwire/plan"
	"twinwire/schema"
	"twinwire/walk"
)

// Schema tells which messages there are.
type Schema struct {
	messages []*model.Message // in the text's order
	plans    *plan.Kept
}

// Parse reads a schema (P3).
func Parse(text string) (*Schema, api.Errno, int) {
	return caught(func() *Schema {
		return &Schema{messages: model.Build(schema.Read(text)), plans: plan.NewKept()}
	})
}

// Messages tells the messages' names (P3).
func (s *Schema) Messages() ([]string, api.Errno) {
	if s == nil {
		return nil, api.ErrNil
	}
	var names []string
	for _, m := range s.messages {
		names = append(names, m.Name)
	}
	return names, api.OK
}

// Decode reads a message (P5).
func (s *Schema) Decode(way int, name string, b string) (api.Msg, api.Errno, int) {
	m, e := s.message(way, name)
	if e != api.OK {
		return api.Msg{}, e, 0
	}
	return caught(func() api.Msg {
		if way == api.Walk {
			return walk.Read(m, b)
		}
		return s.plans.Of(m).Read(b)
	})
}

// Encode writes a message (P6).
func (s *Schema) Encode(way int, name string, m api.Msg) (string, api.Errno) { return "", api.OK }

// Size tells how many bytes a message has (P6).
func (s *Schema) Size(way int, name string, m api.Msg) (int, api.Errno) { return 0, api.OK }

// message is the message that a call names, if the way is one and there is such a message.
func (s *Schema) message(way int, name string) (*model.Message, api.Errno) {
	if s == nil {
		return nil, api.ErrNil
	}
	if way != api.Walk && way != api.Plan {
		return nil, api.ErrWay
	}
	for _, m := range s.messages {
		if m.Name == name {
			return m, api.OK
		}
	}
	return nil, api.ErrType
}

// caught answers what read answers, or, if it gives up, nothing but what is wrong and where.
func caught[T any](read func() T) (answer T, e api.Errno, at int) {
	defer func() {
		r := recover()
		if r == nil {
			return
		}
		f, ok := r.(fault.Fault)
		if !ok { // no reader gave up: to answer here would hide a fault of the program's own
			panic(r)
		}
		e, at = f.Err, f.At
	}()
	return read(), api.OK, 0
}
