package schema

import (
	"twinwire/api"
	"twinwire/fault"
)

const maxEnumNumber = 2147483647

// seen is what stood ahead.
type seen[K comparable] map[K]struct{}

func (s seen[K]) has(k K) bool {
	_, ok := s[k]
	return ok
}

func (s seen[K]) add(k K) { s[k] = struct{}{} }

// check looks at words in the text's order, so the one at which it gives up is the first that may not be.
func check(t Tree) {
	types := typeNames(t)
	blocks := seen[string]{}
	messages := 0
	for _, b := range t.Blocks {
		checkName(b.Name, blocks)
		if b.Enum {
			checkEnum(b)
			continue
		}
		messages++
		refuse(messages > api.MaxMessages, b.Name)
		checkMessage(b, types)
	}
}

// refuse gives up at a word, if it may not be.
func refuse(wrong bool, w Word) {
	if wrong {
		fault.GiveUp(api.ErrName, w.At)
	}
}

// typeNames tells the names of all messages and enums: a type may stand ahead of what it names.
func typeNames(t Tree) seen[string] {
	types := seen[string]{}
	for _, b := range t.Blocks {
		types.add(b.Name.Text)
	}
	return types
}

// checkName looks at a name that has to be another than those ahead.
func checkName(w Word, ahead seen[string]) {
	refuse(len(w.Text) > api.MaxName || ahead.has(w.Text), w)
	ahead.add(w.Text)
}

func checkEnum(b Block) {
	names := seen[string]{}
	for _, v := range b.Values {
		checkName(v.Name, names)
		refuse(v.Number.Value() > maxEnumNumber, v.Number)
	}
}

// fieldCheck is what a message's fields have to be held against.
type fieldCheck struct {
	types   seen[string] // of the whole text
	names   seen[string] // of fields and oneofs ahead
	numbers seen[uint64] // of fields ahead
}

func checkMessage(b Block, types seen[string]) {
	c := fieldCheck{types, seen[string]{}, seen[uint64]{}}
	for _, p := range b.Parts {
		if p.Oneof.Kind == Name {
			checkName(p.Oneof, c.names)
		}
		for _, f := range p.Fields {
			c.field(f)
		}
	}
}

func (c fieldCheck) field(f Field) {
	if f.Form == Map {
		refuse(!isKey(f.Key), f.Key)
	}
	c.typeWord(f.Type)
	checkName(f.Name, c.names)
	refuse(len(c.numbers) >= api.MaxFields, f.Name)
	c.number(f.Number)
}

func isKey(w Word) bool {
	return w.Kind == Builtin && w.Text != "float" && w.Text != "double" && w.Text != "bytes"
}

func (c fieldCheck) typeWord(w Word) {
	if w.Kind == Name {
		refuse(len(w.Text) > api.MaxName || !c.types.has(w.Text), w)
	}
}

func (c fieldCheck) number(w Word) {
	n := w.Value()
	refuse(n < 1 || n > api.MaxNumber || c.numbers.has(n), w)
	c.numbers.add(n)
}
