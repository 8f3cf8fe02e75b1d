// Package plan: messages read by plans, which are made of the schema once for each message.
package plan

import (
	"cmp"
	"slices"

	"twinwire/api"
	"twinwire/draft"
	"twinwire/wire"
)

// Plan is a message's: what to do with each of its fields.
type Plan struct {
	steps []step // by rising numbers
}

// step is a field's.
type step struct {
	number int
	kind   wire.Kind // of a record of one value
	packs  bool      // a record may hold several
	read   reading
}

// reading reads what follows the tag of a record that fits the step's field.
type reading func(kind wire.Kind, r *wire.Reader, into *draft.Message)

// Read reads a message, or gives up (see fault).
func (p *Plan) Read(b string) api.Msg {
	into := &draft.Message{}
	p.readInto(wire.NewReader(b), into)
	return into.Finish()
}

// readInto reads all records of a message into a draft of it.
func (p *Plan) readInto(r *wire.Reader, into *draft.Message) {
	for r.More() {
		start := r.At()
		tag := r.Tag()
		if i, ok := p.find(tag.Number); ok && p.steps[i].fits(tag.Kind) {
			p.steps[i].read(tag.Kind, r, into)
			continue
		}
		r.Skip(tag.Kind)
		into.Keep(r.Since(start))
	}
}

func (p *Plan) find(number int) (int, bool) {
	return slices.BinarySearchFunc(p.steps, number, func(s step, n int) int { return cmp.Compare(s.number, n) })
}

func (s step) fits(kind wire.Kind) bool { return kind == s.kind || kind == wire.Long && s.packs }
