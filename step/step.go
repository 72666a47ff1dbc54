// Package step is how steps give up: by a panic, which the call that takes them recovers, so that none between has to hand an error on.
package step

import "sigil/api"

// Refusal is what a step that can't be done gives up with. It is a type of its own, so that no other panic is taken for one.
type Refusal struct {
	api.Errno
}

// Refuse: gives up.
func Refuse(wrong api.Errno) {
	panic(Refusal{wrong})
}

// Done: gives up, if a step has an error.
func Done(wrong api.Errno) {
	if wrong != api.OK {
		Refuse(wrong)
	}
}

// Must: a step's answer; gives up, if it has an error instead.
func Must[T any](answer T, wrong api.Errno) T {
	Done(wrong)
	return answer
}
