// Package fault: how whoever reads, or looks at what is to be written, gives up, deep inside.
package fault

import "twinwire/api"

// Fault is what is wrong, and the place where it begins.
type Fault struct {
	Err api.Errno
	At  int
}

// GiveUp does not come back: it panics with a Fault, for the face to recover.
func GiveUp(e api.Errno, at int) {
	panic(Fault{Err: e, At: at})
}
