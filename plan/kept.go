package plan

import (
	"sync"

	"twinwire/model"
	"twinwire/schema"
)

// Kept are a schema's plans, each made when it is first asked for.
type Kept struct {
	mutex sync.Mutex
	plans map[string]*Plan // by the messages' names
}

// NewKept is for a schema of which no plan was asked for yet.
func NewKept() *Kept { return &Kept{plans: map[string]*Plan{}} }

// Of is a message's plan.
func (k *Kept) Of(m *model.Message) *Plan {
	k.mutex.Lock()
	defer k.mutex.Unlock()
	return k.of(m)
}

// of is Of, for those who hold the mutex. A plan's steps lead to the plans of its fields' messages, so all of these are made before the mutex is given back; none changes then.
func (k *Kept) of(m *model.Message) *Plan {
	if p := k.plans[m.Name]; p != nil {
		return p
	}
	p := &Plan{}
	k.plans[m.Name] = p // ahead of its steps, which may lead back to it
	p.steps = k.steps(m)
	return p
}

func (k *Kept) steps(m *model.Message) []step {
	var steps []step
	for _, f := range m.Fields {
		in := k.within(f)
		steps = append(steps, step{
			number:  f.Number,
			kind:    f.Type.Wire(),
			packs:   f.Packs(),
			rivals:  f.Rivals,
			check:   makeChecking(f, in),
			measure: makeMeasuring(f, in),
			write:   makeWriting(f, in),
			read:    makeReading(f, in),
		})
	}
	return steps
}

// within is the plan of the messages that a field's values are; of numbers and texts there is none. Entries have no name that theirs could be kept by: nobody else asks for it.
func (k *Kept) within(f *model.Field) *Plan {
	switch {
	case f.Form == schema.Map:
		return &Plan{steps: k.steps(f.Type.Message)}
	case f.Type.Base == model.Nested:
		return k.of(f.Type.Message)
	}
	return nil
}
