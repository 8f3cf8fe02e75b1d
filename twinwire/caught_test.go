package twinwire

import (
	"testing"

	"twinwire/api"
	"twinwire/fault"
)

func TestCaughtAnswers(t *testing.T) {
	if got, e, at := caught(func() int { return 7 }); got != 7 || e != api.OK || at != 0 {
		t.Errorf("caught: %d, %d at %d", got, e, at)
	}
}

func TestCaughtGivenUp(t *testing.T) {
	got, e, at := caught(func() int {
		fault.GiveUp(api.ErrName, 5)
		return 7
	})
	if got != 0 || e != api.ErrName || at != 5 {
		t.Errorf("caught: %d, %d at %d", got, e, at)
	}
}

func TestCaughtHidesNoOtherPanic(t *testing.T) {
	defer func() {
		if r := recover(); r != "other" {
			t.Errorf("recovered %v", r)
		}
	}()
	caught(func() int { panic("other") })
}
