package ipa

import "sigil/api"

// refusal is what a step that can't be done gives up with. It is a type of its own, so that no other panic is taken for one.
type refusal struct {
	api.Errno
}

// refuse: gives up.
func refuse(wrong api.Errno) {
	panic(refusal{wrong})
}

// done: gives up, if a step has an error.
func done(wrong api.Errno) {
	if wrong != api.OK {
		refuse(wrong)
	}
}

// must: a step's answer; gives up, if it has an error instead.
func must[T any](answer T, wrong api.Errno) T {
	done(wrong)
	return answer
}

// divisor: a challenge; gives up, if nothing can be divided by it.
func divisor(challenge api.Elem, wrong api.Errno) api.Elem {
	v := must(challenge, wrong)
	if v == (api.Elem{}) {
		refuse(api.ErrDegenerate)
	}
	return v
}
