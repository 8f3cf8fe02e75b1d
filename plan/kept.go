package plan

import (
	"sync"

	"twinwire/model"
)

// Kept are a schema's plans, each made when it is first asked for.
type Kept struct {
	mutex sync.Mutex
	plans map[string]*Plan // by the messages' names
}

// NewKept is for a schema of which no plan was asked for yet.
func NewKept() *Kept { return &Kept{plans: map[string]*Plan{}} }

// Of is a message's plan.
func (k *Kept) Of(m *model.Message) *Plan {
	k.mutex.Lock()
	defer k.mutex.Unlock()
	return k.of(m)
}

// of is Of, for those who hold the mutex. A plan's steps lead to the plans of its fields' messages, so all of these are made before the mutex is given back; none changes then.
func (k *Kept) of(m *model.Message) *Plan {
	if p := k.plans[m.Name]; p != nil {
		return p
	}
	p := &Plan{}
	k.plans[m.Name] = p // ahead of its steps, which may lead back to it
	p.steps = k.steps(m)
	return p
}

func (k *Kept) steps(m *model.Message) []step {
	var steps []step
	for _, f := range m.Fields {
		steps = append(steps, step{number: f.Number, kind: f.Type.Wire(), packs: f.Packs(), read: k.reading(f)})
	}
	return steps
}
