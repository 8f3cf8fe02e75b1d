package schema

import (
	"twinwire/api"
	"twinwire/fault"
)

// reader goes through a text's words, one function for each rule of the grammar. A rule looks at no more than the next word, so the one at which it gives up is the first that can't stand where it does.
type reader struct {
	words []Word // the last one is End
	next  int
}

// peek is the next word.
func (r *reader) peek() Word { return r.words[r.next] }

// take goes behind the next word. Nobody takes End, so there is always a next one.
func (r *reader) take() Word {
	w := r.peek()
	r.next++
	return w
}

func (r *reader) giveUp() { fault.GiveUp(api.ErrSchema, r.peek().At) }

func (r *reader) isNext(text string) bool { return r.peek().Text == text }

// skip takes a word that has to be there; its text is one of the grammar's own.
func (r *reader) skip(text string) {
	if !r.isNext(text) {
		r.giveUp()
	}
	r.take()
}

func (r *reader) kind(k Kind) Word {
	if r.peek().Kind != k {
		r.giveUp()
	}
	return r.take()
}

func (r *reader) tree() Tree {
	var t Tree
	for r.peek().Kind != End {
		t.Blocks = append(t.Blocks, r.block())
	}
	return t
}

func (r *reader) block() Block {
	if r.isNext("enum") {
		return r.enum()
	}
	return r.message()
}

func (r *reader) message() Block {
	r.skip("message")
	b := Block{Name: r.kind(Name)}
	r.skip("{")
	for !r.isNext("}") {
		b.Parts = append(b.Parts, r.part())
	}
	r.skip("}")
	return b
}

func (r *reader) enum() Block {
	r.skip("enum")
	b := Block{Enum: true, Name: r.kind(Name)}
	r.skip("{")
	for !r.isNext("}") {
		name, number := r.numbered()
		b.Values = append(b.Values, Value{name, number})
	}
	r.skip("}")
	return b
}

func (r *reader) part() Part {
	switch r.peek().Text {
	case "oneof":
		return r.oneof()
	case "map":
		return alone(r.mapField())
	case "repeated":
		r.take()
		return alone(r.field(Repeated))
	case "optional":
		r.take()
		return alone(r.field(Optional))
	}
	return alone(r.field(Single))
}

// alone is the part that a field by itself is.
func alone(f Field) Part { return Part{Fields: []Field{f}} }

func (r *reader) oneof() Part {
	r.skip("oneof")
	p := Part{Oneof: r.kind(Name)}
	r.skip("{")
	p.Fields = append(p.Fields, r.field(OfOneof))
	for !r.isNext("}") {
		p.Fields = append(p.Fields, r.field(OfOneof))
	}
	r.skip("}")
	return p
}

func (r *reader) field(form Form) Field {
	f := Field{Form: form, Type: r.typeWord()}
	f.Name, f.Number = r.numbered()
	return f
}

func (r *reader) mapField() Field {
	f := Field{Form: Map}
	r.skip("map")
	r.skip("<")
	f.Key = r.typeWord()
	r.skip(",")
	f.Type = r.typeWord()
	r.skip(">")
	f.Name, f.Number = r.numbered()
	return f
}

func (r *reader) typeWord() Word {
	if r.peek().Kind == Builtin {
		return r.take()
	}
	return r.kind(Name)
}

// numbered is how fields and an enum's values end: NAME "=" NUMBER ";".
func (r *reader) numbered() (name, number Word) {
	name = r.kind(Name)
	r.skip("=")
	number = r.kind(Number)
	r.skip(";")
	return name, number
}
