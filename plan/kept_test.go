package plan

import (
	"sync"
	"testing"

	"twinwire/model"
	"twinwire/schema"
)

const text = "message A { B b=1; map<bool,A> m=2; } message B { A a=1; } message C { repeated C c=1; }"

func TestKeptPlansAreMadeOnce(t *testing.T) {
	messages := model.Build(schema.Read(text))
	k := NewKept()
	if len(k.plans) != 0 {
		t.Error("plans that nobody asked for")
	}
	a := k.Of(messages[0])
	b := k.plans["B"]
	if len(k.plans) != 2 || b == nil || len(a.steps) != 2 || len(b.steps) != 1 {
		t.Errorf("%d plans of A and what it leads to", len(k.plans))
	}
	if k.Of(messages[0]) != a || k.Of(messages[1]) != b || len(k.plans) != 2 {
		t.Error("a plan was made again")
	}
	if k.Of(messages[2]) == nil || len(k.plans) != 3 {
		t.Error("no plan of C")
	}
}

func TestStepsHaveAllFunctions(t *testing.T) {
	for _, m := range model.Build(schema.Read(text + " message D { oneof o { string a=1; E b=2; } repeated double c=3; bytes d=4; map<int32,string> e=5; } enum E { }")) {
		for _, s := range NewKept().Of(m).steps {
			if s.check == nil || s.measure == nil || s.write == nil || s.read == nil {
				t.Errorf("%s: the step of field %d lacks a function", m.Name, s.number)
			}
		}
	}
}

func TestKeptBySeveralGoroutines(t *testing.T) {
	messages := model.Build(schema.Read(text))
	k := NewKept()
	plans := make([]*Plan, 12)
	var wait sync.WaitGroup
	for i := range plans {
		wait.Go(func() { plans[i] = k.Of(messages[i%3]) })
	}
	wait.Wait()
	for i, p := range plans {
		if p == nil || p != plans[i%3] || len(p.steps) != len(messages[i%3].Fields) {
			t.Errorf("plan %d is another one", i)
		}
	}
}
