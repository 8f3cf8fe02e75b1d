// Package twinwire: messages in bytes, by a schema: see DOC.md.
package twinwire

import (
	"twinwire/api"
	"twinwire/fault"
	"twinwire/model"
	"twinwire/plan"
	"twinwire/schema"
	"twinwire/walk"
)

// Schema tells which messages there are.
type Schema struct {
	messages []*model.Message // in the text's order
	plans    *plan.Kept
}

// Parse reads a schema (P3).
func Parse(text string) (*Schema, api.Errno, int) {
	return caught(func() *Schema {
		return &Schema{messages: model.Build(schema.Read(text)), plans: plan.NewKept()}
	})
}

// Messages tells the messages' names (P3).
func (s *Schema) Messages() ([]string, api.Errno) {
	if s == nil {
		return nil, api.ErrNil
	}
	var names []string
	for _, m := range s.messages {
		names = append(names, m.Name)
	}
	return names, api.OK
}

// Decode reads a message (P5).
func (s *Schema) Decode(way int, name string, b string) (api.Msg, api.Errno, int) {
	m, e := s.message(way, name)
	if e != api.OK {
		return api.Msg{}, e, 0
	}
	return caught(func() api.Msg {
		if way == api.Walk {
			return walk.Read(m, b)
		}
		return s.plans.Of(m).Read(b)
	})
}

// Encode writes a message (P6).
func (s *Schema) Encode(way int, name string, m api.Msg) (string, api.Errno) {
	t, e := s.message(way, name)
	if e != api.OK {
		return "", e
	}
	return ifSuch(func() string {
		if way == api.Walk {
			return walk.Write(t, m)
		}
		return s.plans.Of(t).Write(m)
	})
}

// Size tells how many bytes a message has (P6).
func (s *Schema) Size(way int, name string, m api.Msg) (int, api.Errno) {
	t, e := s.message(way, name)
	if e != api.OK {
		return 0, e
	}
	return ifSuch(func() int {
		if way == api.Walk {
			return walk.Measure(t, m)
		}
		return s.plans.Of(t).Measure(m)
	})
}

// message is the message that a call names, if the way is one and there is such a message.
func (s *Schema) message(way int, name string) (*model.Message, api.Errno) {
	if s == nil {
		return nil, api.ErrNil
	}
	if way != api.Walk && way != api.Plan {
		return nil, api.ErrWay
	}
	for _, m := range s.messages {
		if m.Name == name {
			return m, api.OK
		}
	}
	return nil, api.ErrType
}

// ifSuch answers what write answers, or, if it gives up, ErrValue: whatever is wrong, also in unknown records, the message is not such.
func ifSuch[T any](write func() T) (T, api.Errno) {
	answer, e, _ := caught(write)
	if e != api.OK {
		e = api.ErrValue
	}
	return answer, e
}

// caught answers what call answers, or, if it gives up, nothing but what is wrong and where.
func caught[T any](call func() T) (answer T, e api.Errno, at int) {
	defer func() {
		r := recover()
		if r == nil {
			return
		}
		f, ok := r.(fault.Fault)
		if !ok { // nobody gave up: to answer here would hide a fault of the program's own
			panic(r)
		}
		e, at = f.Err, f.At
	}()
	return call(), api.OK, 0
}
