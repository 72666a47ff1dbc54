package poly

import (
	"slices"
	"testing"

	"sigil/api"
)

// P7.6

// spoil: writes over a list, and over the spare room behind it.
func spoil(list []api.Elem) {
	for i := range list[:cap(list)] {
		list[:cap(list)][i] = greatest
	}
}

// roomy: a list with numbers behind its length in its memory, and all that memory.
func roomy(s *stream, list []api.Elem) ([]api.Elem, []api.Elem) {
	whole := append(slices.Clone(list), s.elems(9)...)
	return whole[:len(list):len(whole)], whole
}

// call: one of the functions, of two lists.
type call struct {
	name string
	of   func(sort int, a, b []api.Elem) [][]api.Elem
}

// first: a list's first number, or 0.
func first(list []api.Elem) api.Elem {
	if len(list) == 0 {
		return api.Elem{}
	}
	return list[0]
}

func calls() []call {
	one := func(list []api.Elem, _ api.Errno) [][]api.Elem { return [][]api.Elem{list} }
	two := func(p, q []api.Elem, _ api.Errno) [][]api.Elem { return [][]api.Elem{p, q} }
	return []call{
		{"Trim", func(sort int, a, b []api.Elem) [][]api.Elem { return [][]api.Elem{Trim(sort, a)} }},
		{"Add", func(sort int, a, b []api.Elem) [][]api.Elem { return [][]api.Elem{Add(sort, a, b)} }},
		{"Scale", func(sort int, a, b []api.Elem) [][]api.Elem { return [][]api.Elem{Scale(sort, a, first(b))} }},
		{"Eval", func(sort int, a, b []api.Elem) [][]api.Elem { return [][]api.Elem{{Eval(sort, a, first(b))}} }},
		{"Mul", func(sort int, a, b []api.Elem) [][]api.Elem { return one(Mul(sort, a, b)) }},
		{"Divide", func(sort int, a, b []api.Elem) [][]api.Elem { return two(Divide(sort, a, b)) }},
		{"Zeros", func(sort int, a, b []api.Elem) [][]api.Elem { return one(Zeros(sort, a)) }},
		{"Through", func(sort int, a, b []api.Elem) [][]api.Elem { return one(Through(sort, a, b)) }},
	}
}

// answers: copies of lists, for they are to be written over.
func answers(lists [][]api.Elem) [][]api.Elem {
	out := make([][]api.Elem, len(lists))
	for i, list := range lists {
		out[i] = slices.Clone(list)
	}
	return out
}

func sameLists(a, b [][]api.Elem) bool { return slices.EqualFunc(a, b, slices.Equal[[]api.Elem]) }

// alone: does a call leave its lists as they were, and does it answer memory that nothing else has?
func alone(t *testing.T, c call, sort int, a, b []api.Elem) {
	t.Helper()
	s := stream(2500)
	p, wholeA := roomy(&s, a)
	q, wholeB := roomy(&s, b)
	keptA, keptB := slices.Clone(wholeA), slices.Clone(wholeB)
	got := c.of(sort, p, q)
	want := answers(got)
	if !slices.Equal(wholeA, keptA) || !slices.Equal(wholeB, keptB) {
		t.Errorf("%s(%d, %v, %v) changed what it was given", c.name, sort, a, b)
	}
	for i := range got {
		spoil(got[i])
		for j := i + 1; j < len(got); j++ {
			if !slices.Equal(got[j], want[j]) {
				t.Errorf("%s(%d, %v, %v): two lists share memory", c.name, sort, a, b)
			}
		}
	}
	if !slices.Equal(wholeA, keptA) || !slices.Equal(wholeB, keptB) {
		t.Errorf("%s(%d, %v, %v) answered memory that it was given", c.name, sort, a, b)
	}
	if again := c.of(sort, p, q); !sameLists(again, want) {
		t.Errorf("%s(%d, %v, %v) once it was written over: %v, not %v", c.name, sort, a, b, again, want)
	}
}

func TestMemory(t *testing.T) {
	for _, c := range calls() {
		pairs(func(sort int, a, b []api.Elem) { alone(t, c, sort, a, b) })
		for _, sort := range []int{-1, 4} {
			alone(t, c, sort, ints(0, 1, 2, 3), ints(0, 4, 5, 6))
		}
	}
}

// What was answered stays as it is when what was handed in is written over, and when there are later calls.
func TestAnswersStay(t *testing.T) {
	for _, c := range calls() {
		pairs(func(sort int, a, b []api.Elem) {
			s := stream(2600)
			p, wholeA := roomy(&s, a)
			q, wholeB := roomy(&s, b)
			got := c.of(sort, p, q)
			want := answers(got)
			spoil(wholeA)
			spoil(wholeB)
			c.of(sort, p, q)
			if !sameLists(got, want) {
				t.Errorf("%s(%d, %v, %v): another answer later on", c.name, sort, a, b)
			}
		})
	}
}

// One list may be handed in twice.
func TestOneListTwice(t *testing.T) {
	for _, c := range calls() {
		for sort := range 4 {
			for _, a := range polynomials(sort) {
				p := slices.Clone(a)
				if got, want := c.of(sort, p, p), c.of(sort, a, slices.Clone(a)); !sameLists(got, want) {
					t.Errorf("%s(%d) of %v twice: %v, not %v", c.name, sort, a, got, want)
				}
				if !slices.Equal(p, a) {
					t.Errorf("%s(%d) changed %v, handed in twice", c.name, sort, a)
				}
			}
		}
	}
}

// Numbers stand for their remainders, and no answer ends in a zero or has a number that isn't below the modulus.
func TestRemainders(t *testing.T) {
	for _, c := range calls() {
		pairs(func(sort int, a, b []api.Elem) {
			below := func(list []api.Elem) []api.Elem {
				out := make([]api.Elem, len(list))
				for i, e := range list {
					out[i] = mod(sort, bigOf(e))
				}
				return out
			}
			got := c.of(sort, a, b)
			if want := c.of(sort, below(a), below(b)); !sameLists(got, want) {
				t.Errorf("%s(%d, %v, %v): %v, not %v", c.name, sort, a, b, got, want)
			}
			for _, list := range got {
				if !slices.Equal(list, below(list)) || c.name != "Eval" && !slices.Equal(list, trimmed(sort, list)) {
					t.Errorf("%s(%d, %v, %v): %v", c.name, sort, a, b, list)
				}
			}
		})
	}
}
