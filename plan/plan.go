// Package plan: messages read, measured and written by plans, which are made of the schema once for each message.
package plan

import (
	"cmp"
	"slices"

	"twinwire/api"
	"twinwire/draft"
	"twinwire/such"
	"twinwire/wire"
)

// Plan is a message's: what to do with each of its fields.
type Plan struct {
	steps []step // by rising numbers
}

// step is a field's.
type step struct {
	number  int
	kind    wire.Kind // of a record of one value
	packs   bool      // a record may hold several
	rivals  []int     // the numbers of its oneof's other fields
	check   checking
	measure measuring
	write   writing
	read    reading
}

// checking gives up, if the field's values are not such; deep is of the message that they are in.
type checking func(values []api.Value, deep int)

// measuring tells how many bytes the field's records have, writing writes them. Both are for what was checked.
type (
	measuring func(values []api.Value) int
	writing   func(values []api.Value, w *wire.Writer)
)

// reading reads what follows the tag of a record that fits the step's field.
type reading func(kind wire.Kind, r *wire.Reader, into *draft.Message)

// Read reads a message, or gives up (see fault).
func (p *Plan) Read(b string) api.Msg {
	into := &draft.Message{}
	p.readInto(wire.NewReader(b), into)
	return into.Finish()
}

// Measure is how many bytes Write answers; it gives up where Write does.
func (p *Plan) Measure(v api.Msg) int {
	p.checkMessage(v, 1)
	return p.measureMessage(v)
}

// Write is a message's bytes; it gives up (see fault), if the message is not such.
func (p *Plan) Write(v api.Msg) string {
	w := wire.NewWriter(p.Measure(v))
	p.writeMessage(v, w)
	return w.Written()
}

// readInto reads all records of a message into a draft of it.
func (p *Plan) readInto(r *wire.Reader, into *draft.Message) {
	for r.More() {
		start := r.At()
		tag := r.Tag()
		if s := p.step(tag.Number); s != nil && s.fits(tag.Kind) {
			s.read(tag.Kind, r, into)
			continue
		}
		r.Skip(tag.Kind)
		into.Keep(r.Since(start))
	}
}

// checkMessage gives up, if a message is not such. It looks at how deep it is first: lists may lead back to themselves.
func (p *Plan) checkMessage(v api.Msg, deep int) {
	such.Need(deep <= api.MaxDeep)
	for i, f := range v.Fields {
		s := p.step(f.Number)
		such.Need(s != nil)
		such.Next(v.Fields[:i], s.number, s.rivals)
		s.check(f.Values, deep)
	}
	such.Unknown(v.Unknown, func(t wire.Tag) bool {
		s := p.step(t.Number)
		return s != nil && s.fits(t.Kind)
	})
}

func (p *Plan) measureMessage(v api.Msg) int {
	size := len(v.Unknown)
	for _, f := range v.Fields {
		size += p.step(f.Number).measure(f.Values)
	}
	return size
}

func (p *Plan) writeMessage(v api.Msg, w *wire.Writer) {
	for _, f := range v.Fields {
		p.step(f.Number).write(f.Values, w)
	}
	w.Records(v.Unknown)
}

// step is that of the field of a number, or nil.
func (p *Plan) step(number int) *step {
	i, ok := slices.BinarySearchFunc(p.steps, number, func(s step, n int) int { return cmp.Compare(s.number, n) })
	if !ok {
		return nil
	}
	return &p.steps[i]
}

func (s *step) fits(kind wire.Kind) bool { return kind == s.kind || kind == wire.Long && s.packs }
