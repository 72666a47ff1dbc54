package keys

import (
	"sigil/api"
	"sigil/curve"
	"sigil/field"
)

// encodedBytes is how many bytes a scalar has, and a point.
const encodedBytes = 32

// refusal is what a scanner gives up with. It is a type of its own, so that no other panic is taken for one.
type refusal struct {
	api.Errno
}

// giveUp: the bytes are no key's.
func giveUp() {
	panic(refusal{api.ErrVkey})
}

// done: gives up, if a step has an error.
func done(wrong api.Errno) {
	if wrong != api.OK {
		giveUp()
	}
}

// must: a step's answer; gives up, if it has an error instead.
func must[T any](answer T, wrong api.Errno) T {
	done(wrong)
	return answer
}

// scanner reads a key's bytes. It gives up by a panic where they can't be a right key's; that the key is right is asked of it as a whole.
type scanner struct {
	rest  []byte
	curve int
}

// key: the key that the bytes begin with.
func (s *scanner) key() api.Vkey {
	s.curve = s.number()
	v := api.Vkey{Curve: s.curve, K: s.number(), Circuit: s.circuit()}
	v.Fixed = several(v.Circuit.Fixed, s.point)
	v.Sigma = several(len(v.Circuit.Equal), s.point)
	return v
}

func (s *scanner) circuit() api.Circuit {
	return api.Circuit{
		Fixed: s.number(), Advice: s.number(), Instance: s.number(),
		Nodes:   several(s.number(), s.node),
		Gates:   several(s.number(), s.number),
		Lookups: several(s.number(), s.lookup),
		Equal:   several(s.number(), s.column),
	}
}

// end: gives up, if there are bytes left.
func (s *scanner) end() {
	if len(s.rest) > 0 {
		giveUp()
	}
}

// take: the next so many bytes.
func (s *scanner) take(count int) []byte {
	if count > len(s.rest) {
		giveUp()
	}
	taken := s.rest[:count]
	s.rest = s.rest[count:]
	return taken
}

func (s *scanner) number() int { return int(s.take(1)[0]) }

// signed: a number that may be below 0, where its byte is 256 less.
func (s *scanner) signed() int { return int(int8(s.number())) }

// node: gives up, if there is something that the Op doesn't name.
func (s *scanner) node() api.Node {
	n := api.Node{Op: s.number(), A: s.number(), B: s.signed()}
	n.V = must(field.Decode(scalars(s.curve), s.take(encodedBytes)))
	if n != named(n) {
		giveUp()
	}
	return n
}

func (s *scanner) lookup() api.Lookup {
	width := s.number()
	return api.Lookup{Inputs: several(width, s.number), Tables: several(width, s.number)}
}

func (s *scanner) column() api.Column { return api.Column{Kind: s.number(), Col: s.number()} }

func (s *scanner) point() api.Point { return must(curve.Decode(s.curve, s.take(encodedBytes))) }

// several: so many, read one behind the other.
func several[T any](count int, read func() T) []T {
	list := make([]T, count)
	for i := range list {
		list[i] = read()
	}
	return list
}
