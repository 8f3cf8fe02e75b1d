// Package twinwire: messages in bytes, by a schema: see DOC.md.
package twinwire

import (
	"slices"

	"twinwire/api"
	"twinwire/fault"
	"twinwire/schema"
)

// Schema tells which messages there are.
type Schema struct {
	messages []string
}

// Parse reads a schema (P3).
func Parse(text string) (*Schema, api.Errno, int) {
	return caught(func() *Schema {
		return &Schema{messages: schema.Read(text).MessageNames()}
	})
}

// Messages tells the messages' names (P3).
func (s *Schema) Messages() ([]string, api.Errno) {
	if s == nil {
		return nil, api.ErrNil
	}
	return slices.Clone(s.messages), api.OK
}

// Decode reads a message (P5).
func (s *Schema) Decode(way int, name string, b string) (api.Msg, api.Errno, int) {
	return api.Msg{}, api.OK, 0
}

// Encode writes a message (P6).
func (s *Schema) Encode(way int, name string, m api.Msg) (string, api.Errno) { return "", api.OK }

// Size tells how many bytes a message has (P6).
func (s *Schema) Size(way int, name string, m api.Msg) (int, api.Errno) { return 0, api.OK }

// caught answers what read answers, or, if it gives up, nothing but what is wrong and where.
func caught[T any](read func() T) (answer T, e api.Errno, at int) {
	defer func() {
		r := recover()
		if r == nil {
			return
		}
		f, ok := r.(fault.Fault)
		if !ok { // no reader gave up: to answer here would hide a fault of the program's own
			panic(r)
		}
		e, at = f.Err, f.At
	}()
	return read(), api.OK, 0
}
