package poly

import (
	"slices"
	"testing"

	"sigil/api"
)

// P7.4

// divided: the quotient and the remainder, if they are what the chapter says of them.
func divided(t *testing.T, sort int, a, b []api.Elem) ([]api.Elem, []api.Elem) {
	t.Helper()
	q, r, e := Divide(sort, a, b)
	if e != api.OK {
		t.Fatalf("Divide(%d) of %d by %d: %d", sort, len(a), len(b), e)
	}
	if again := sumOf(sort, productOf(sort, q, b), r); !slices.Equal(again, trimmed(sort, a)) {
		t.Errorf("Divide(%d) of %d by %d: the quotient %v times b, and %v, aren't a", sort, len(a), len(b), q, r)
	}
	if len(r) >= len(trimmed(sort, b)) {
		t.Errorf("Divide(%d) of %d by %d: the remainder has %d", sort, len(a), len(b), len(r))
	}
	for _, list := range [][]api.Elem{q, r} {
		if !slices.Equal(list, trimmed(sort, list)) {
			t.Errorf("Divide(%d) of %d by %d isn't trimmed: %v", sort, len(a), len(b), list)
		}
	}
	return q, r
}

func TestDivide(t *testing.T) {
	pairs(func(sort int, a, b []api.Elem) {
		if len(trimmed(sort, b)) > 0 {
			divided(t, sort, a, b)
		}
	})
}

// A product divided by a factor leaves nothing, and one with something added leaves that.
func TestDivideOfProducts(t *testing.T) {
	pairs(func(sort int, a, b []api.Elem) {
		factor := trimmed(sort, b)
		if len(factor) == 0 {
			return
		}
		product := productOf(sort, a, b)
		for n := range min(len(factor), 5) {
			added := ints(sort, 3, 0, 5, 7)[:n]
			q, r := divided(t, sort, sumOf(sort, product, added), b)
			if !slices.Equal(q, trimmed(sort, a)) || !slices.Equal(r, trimmed(sort, added)) {
				t.Errorf("Divide(%d) of %v times %v and %v: %v %v", sort, a, b, added, q, r)
			}
		}
	})
}

func TestDivideExamples(t *testing.T) {
	if q, r := divided(t, 0, []api.Elem{{1}, {2}, {1}}, []api.Elem{{1}, {1}}); !slices.Equal(q, []api.Elem{{1}, {1}}) || len(r) != 0 {
		t.Error(q, r)
	}
	for sort := range 4 {
		q, r := divided(t, sort, ints(sort, 5, 2, 0, 1), ints(sort, 1, 0, 1))
		if !slices.Equal(q, ints(sort, 0, 1)) || !slices.Equal(r, ints(sort, 5, 1)) {
			t.Error(sort, q, r)
		}
	}
}

func TestDivideByZero(t *testing.T) {
	long := slices.Repeat([]api.Elem{{1}}, 1025)
	for sort := range 4 {
		for _, zero := range [][]api.Elem{nil, {}, {{}}, {{}, {}, {}}, {multiple(sort, 1, 0)}, noughts(sort), make([]api.Elem, 2000)} {
			for _, a := range append(polynomials(sort), long) {
				if q, r, e := Divide(sort, a, zero); len(q) != 0 || len(r) != 0 || e != api.ErrZero {
					t.Errorf("Divide(%d) of %d by %v: %v %v %d", sort, len(a), zero, q, r, e)
				}
			}
		}
	}
}

func TestDivideOfMost(t *testing.T) {
	for sort := range 4 {
		s := stream(1500 + sort)
		a := s.elems(1024)
		for _, n := range []int{1, 2, 3, 512, 1000, 1023, 1024, 1025, 3000} {
			b := s.elems(n)
			q, r := divided(t, sort, a, b)
			// Zeros at the end don't count.
			for _, zeros := range [][]api.Elem{make([]api.Elem, 1500), noughts(sort)} {
				q2, r2, e := Divide(sort, slices.Concat(a, zeros), slices.Concat(b, zeros))
				if !slices.Equal(q, q2) || !slices.Equal(r, r2) || e != api.OK {
					t.Errorf("Divide(%d) of 1024 by %d, with zeros at the end: another answer, %d", sort, n, e)
				}
			}
		}
	}
}

func TestDivideOfTooMany(t *testing.T) {
	for sort := range 4 {
		s := stream(1600 + sort)
		for _, many := range []int{1025, 1026, 2048, 5000} {
			for _, n := range []int{1, 2, 1024, 1025, many, many + 1} {
				for _, zeros := range [][]api.Elem{nil, make([]api.Elem, 3)} {
					a, b := slices.Concat(s.elems(many), zeros), slices.Concat(s.elems(n), zeros)
					if q, r, e := Divide(sort, a, b); len(q) != 0 || len(r) != 0 || e != api.ErrDegree {
						t.Errorf("Divide(%d) of %d by %d: %d and %d of them, %d", sort, many, n, len(q), len(r), e)
					}
				}
			}
		}
	}
}

func TestDivideByGreaterDegree(t *testing.T) {
	for sort := range 4 {
		s := stream(1700 + sort)
		for _, a := range polynomials(sort) {
			n := len(trimmed(sort, a))
			for _, more := range []int{1, 2, 30, 2000} {
				if q, r := divided(t, sort, a, s.elems(n+more)); len(q) != 0 || !slices.Equal(r, trimmed(sort, a)) {
					t.Errorf("Divide(%d) of %v by one of %d coefficients: %v %v", sort, a, n+more, q, r)
				}
			}
		}
	}
}

func TestDivideByNumbers(t *testing.T) {
	for sort := range 4 {
		for _, k := range numbers(sort) {
			if mod(sort, bigOf(k)) == (api.Elem{}) {
				continue
			}
			for _, a := range polynomials(sort) {
				q, r := divided(t, sort, a, append([]api.Elem{k}, noughts(sort)...))
				if !slices.Equal(productOf(sort, q, []api.Elem{k}), trimmed(sort, a)) || len(r) != 0 {
					t.Errorf("Divide(%d) of %v by %v: %v %v", sort, a, k, q, r)
				}
			}
		}
	}
}
