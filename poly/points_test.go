package poly

import (
	"math/big"
	"slices"
	"testing"

	"sigil/api"
)

// P7.5

func zerosOf(t *testing.T, sort int, xs []api.Elem) []api.Elem {
	t.Helper()
	list, e := Zeros(sort, xs)
	if e != api.OK {
		t.Fatalf("Zeros(%d) of %d: %d", sort, len(xs), e)
	}
	if len(list) != len(xs)+1 || list[len(xs)] != (api.Elem{1}) {
		t.Fatalf("Zeros(%d) of %d: %d coefficients, %v", sort, len(xs), len(list), list)
	}
	// Of a great many xs some will do.
	step := max(1, len(xs)/64)
	for i := 0; i < len(xs); i += step {
		x := xs[i]
		if got := valueAt(sort, list, x); got != (api.Elem{}) {
			t.Fatalf("Zeros(%d) of %d at %v: %v", sort, len(xs), x, got)
		}
	}
	return list
}

// factorsOf: the product of (X - x), factor by factor.
func factorsOf(sort int, xs []api.Elem) []api.Elem {
	product := []api.Elem{{1}}
	for _, x := range xs {
		product = productOf(sort, product, []api.Elem{mod(sort, new(big.Int).Neg(bigOf(x))), {1}})
	}
	return product
}

func TestZeros(t *testing.T) {
	for sort := range 4 {
		s := stream(1800 + sort)
		lists := append(polynomials(sort), numbers(sort), s.elems(64), s.elems(100))
		for _, xs := range lists {
			if got, want := zerosOf(t, sort, xs), factorsOf(sort, xs); !slices.Equal(got, want) {
				t.Errorf("Zeros(%d, %v): %v, not %v", sort, xs, got, want)
			}
		}
	}
}

func TestZerosExamples(t *testing.T) {
	if got := zerosOf(t, 0, []api.Elem{{2}}); !slices.Equal(got, []api.Elem{{16513535}, {1}}) {
		t.Error(got)
	}
	for sort := range 4 {
		if got := zerosOf(t, sort, nil); !slices.Equal(got, []api.Elem{{1}}) {
			t.Error(sort, got)
		}
		if got := zerosOf(t, sort, []api.Elem{}); !slices.Equal(got, []api.Elem{{1}}) {
			t.Error(sort, got)
		}
		if got := zerosOf(t, sort, ints(sort, 1, 2)); !slices.Equal(got, ints(sort, 2, -3, 1)) {
			t.Error(sort, got)
		}
	}
}

// An x that stands there more than once is a factor as often.
func TestZerosOfOneXOften(t *testing.T) {
	for sort := range 4 {
		xs := []api.Elem{{1}, multiple(sort, 1, 1), multiple(sort, 2, 1)}
		if got := zerosOf(t, sort, xs); !slices.Equal(got, ints(sort, -1, 3, -3, 1)) {
			t.Errorf("Zeros(%d) of 1 three times: %v", sort, got)
		}
		if got := zerosOf(t, sort, noughts(sort)); !slices.Equal(got, ints(sort, 0, 0, 0, 0, 1)) {
			t.Errorf("Zeros(%d) of 0 four times: %v", sort, got)
		}
	}
}

func TestZerosOfMost(t *testing.T) {
	for sort := range 4 {
		s := stream(1900 + sort)
		xs := s.elems(1023)
		got := zerosOf(t, sort, xs)
		for _, x := range numbers(sort) {
			want := big.NewInt(1)
			for _, zero := range xs {
				want.Mul(want, new(big.Int).Sub(bigOf(x), bigOf(zero))).Mod(want, modulusOf(sort))
			}
			if value := valueAt(sort, got, x); value != elemOf(want) {
				t.Errorf("Zeros(%d) of 1023 at %v: %v, not %v", sort, x, value, want)
			}
		}
		// (X - 1)^512 (X + 1)^511 is (X^2 - 1)^511 (X - 1): half of the xs are one element.
		zerosOf(t, sort, append(slices.Repeat(ints(sort, 1), 512), slices.Repeat(ints(sort, -1), 511)...))
	}
}

func TestZerosOfTooMany(t *testing.T) {
	for sort := range 4 {
		s := stream(2000 + sort)
		for _, n := range []int{1024, 1025, 2048, 5000} {
			for _, xs := range [][]api.Elem{s.elems(n), make([]api.Elem, n), slices.Repeat([]api.Elem{{1}}, n)} {
				if got, e := Zeros(sort, xs); len(got) != 0 || e != api.ErrDegree {
					t.Errorf("Zeros(%d) of %d: %d of them, %d", sort, n, len(got), e)
				}
			}
		}
	}
}

// through: the polynomial, if it has the values and is of degree below their number, and trimmed.
func through(t *testing.T, sort int, xs, ys []api.Elem) []api.Elem {
	t.Helper()
	list, e := Through(sort, xs, ys)
	if e != api.OK {
		t.Fatalf("Through(%d, %v, %v): %d", sort, xs, ys, e)
	}
	if len(list) > len(xs) || !slices.Equal(list, trimmed(sort, list)) {
		t.Errorf("Through(%d, %v, %v): %v", sort, xs, ys, list)
	}
	for i, x := range xs {
		if got, want := valueAt(sort, list, x), mod(sort, bigOf(ys[i])); got != want {
			t.Errorf("Through(%d, %v, %v) at %v: %v, not %v", sort, xs, ys, x, got, want)
		}
	}
	return list
}

// places: n xs, no two of them one element: small ones, ones above multiples of the modulus, any ones.
func places(sort, n int) [][]api.Elem {
	s := stream(2100 + sort)
	small, above := make([]api.Elem, n), make([]api.Elem, n)
	for i := range n {
		small[i] = api.Elem{uint64(i)}
		above[i] = multiple(sort, int64(i%4), int64(7*i))
	}
	return [][]api.Elem{small, above, s.elems(n)}
}

func TestThrough(t *testing.T) {
	for sort := range 4 {
		s := stream(2200 + sort)
		for _, n := range []int{0, 1, 2, 3, 4, 7, 16, 33, 63, 64} {
			for _, xs := range places(sort, n) {
				through(t, sort, xs, s.elems(n))
				through(t, sort, xs, xs)
			}
		}
	}
}

// The values of a polynomial with fewer coefficients tell just these.
func TestThroughValues(t *testing.T) {
	for sort := range 4 {
		for _, a := range polynomials(sort) {
			for _, more := range []int{0, 1, 5} {
				for _, xs := range places(sort, len(a)+more) {
					ys := make([]api.Elem, len(xs))
					for i, x := range xs {
						ys[i] = valueAt(sort, a, x)
					}
					if got := through(t, sort, xs, ys); !slices.Equal(got, trimmed(sort, a)) {
						t.Errorf("Through(%d) of %d values of %v: %v", sort, len(xs), a, got)
					}
				}
			}
		}
	}
}

func TestThroughExamples(t *testing.T) {
	if got := through(t, 0, []api.Elem{{}, {1}}, []api.Elem{{5}, {7}}); !slices.Equal(got, []api.Elem{{5}, {2}}) {
		t.Error(got)
	}
	for sort := range 4 {
		if got := through(t, sort, ints(sort, 0, 1, 2), ints(sort, 5, 7, 11)); !slices.Equal(got, ints(sort, 5, 1, 1)) {
			t.Error(sort, got)
		}
		if got := through(t, sort, nil, []api.Elem{}); len(got) != 0 {
			t.Error(sort, got)
		}
		// One point, and values that are all 0: numbers alone.
		if got := through(t, sort, []api.Elem{greatest}, ints(sort, 9)); !slices.Equal(got, ints(sort, 9)) {
			t.Error(sort, got)
		}
		if got := through(t, sort, ints(sort, 1, 2, 3, 4), noughts(sort)); len(got) != 0 {
			t.Error(sort, got)
		}
	}
}

func TestThroughOfOtherLengths(t *testing.T) {
	for sort := range 4 {
		for _, pair := range [][2]int{{0, 1}, {1, 0}, {1, 2}, {2, 1}, {3, 5}, {64, 63}, {63, 64}, {64, 65}, {65, 64}, {65, 66}, {2000, 0}, {0, 2000}} {
			s := stream(2300 + sort)
			// Neither too many of them nor twice the same x comes before it.
			for _, xs := range [][]api.Elem{s.elems(pair[0]), make([]api.Elem, pair[0])} {
				if got, e := Through(sort, xs, s.elems(pair[1])); len(got) != 0 || e != api.ErrLength {
					t.Errorf("Through(%d) of %d xs and %d ys: %v %d", sort, pair[0], pair[1], got, e)
				}
			}
		}
	}
}

func TestThroughOfTooMany(t *testing.T) {
	for sort := range 4 {
		for _, n := range []int{65, 66, 128, 2000} {
			for _, xs := range append(places(sort, n), make([]api.Elem, n)) {
				if got, e := Through(sort, xs, xs); len(got) != 0 || e != api.ErrDegree {
					t.Errorf("Through(%d) of %d: %v %d", sort, n, got, e)
				}
			}
		}
	}
}

func TestThroughOfOneXTwice(t *testing.T) {
	for sort := range 4 {
		s := stream(2400 + sort)
		for _, n := range []int{2, 3, 9, 64} {
			for _, pair := range [][2]int{{0, 1}, {0, n - 1}, {n - 2, n - 1}, {n / 2, n - 1}} {
				xs := places(sort, n)[0]
				for times := range int64(4) {
					if pair[0] == pair[1] {
						continue
					}
					xs[pair[1]] = elemOf(new(big.Int).Add(bigOf(xs[pair[0]]), bigOf(multiple(sort, times%3, 0))))
					// The ys may be the same or not.
					for _, ys := range [][]api.Elem{s.elems(n), make([]api.Elem, n), xs} {
						if got, e := Through(sort, xs, ys); len(got) != 0 || e != api.ErrZero {
							t.Errorf("Through(%d, %v, %v): %v %d", sort, xs, ys, got, e)
						}
					}
				}
			}
		}
	}
}
