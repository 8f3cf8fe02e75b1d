// Package schema reads a schema's text: its words, by the grammar, into a tree, in which names, numbers and types are looked at then.
package schema

import (
	"strings"

	"twinwire/api"
	"twinwire/fault"
)

// Tree is what a text says: its messages and enums, in its order.
type Tree struct {
	Blocks []Block
}

// Block is a message, which has parts, or an enum, which has values.
type Block struct {
	Enum   bool
	Name   Word
	Parts  []Part
	Values []Value
}

// Part is a field by itself (Oneof has no text then), or a oneof with its fields.
type Part struct {
	Oneof  Word
	Fields []Field
}

// Form tells what kind of field one is.
type Form int

const (
	Single Form = iota
	Optional
	Repeated
	OfOneof
	Map
)

// Field is one of a message; Key is a map's first type, and has no text else.
type Field struct {
	Form         Form
	Key, Type    Word
	Name, Number Word
}

// Value is one of an enum.
type Value struct {
	Name, Number Word
}

// Read reads a schema, or gives up with what is wrong and where (see fault).
func Read(text string) Tree {
	if len(text) > api.MaxText {
		fault.GiveUp(api.ErrSchema, 0)
	}
	r := reader{words: split(text)}
	t := r.tree()
	check(t)
	return t
}

// MessageNames tells the messages' names, in the text's order. They are copies: whoever keeps them does not keep the text.
func (t Tree) MessageNames() []string {
	var names []string
	for _, b := range t.Blocks {
		if !b.Enum {
			names = append(names, strings.Clone(b.Name.Text))
		}
	}
	return names
}
