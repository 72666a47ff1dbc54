package permute

import (
	"math/big"
	"testing"

	"sigil/api"
)

// lagrange: the value at x of the polynomial that is 1 at the point of a row and 0 at the others, factor by factor.
func (f fieldBy) lagrange(k, row int, x *big.Int) *big.Int {
	value, at := big.NewInt(1), f.point(k, row)
	for other := range 1 << k {
		if other != row {
			p := f.point(k, other)
			value = f.mul(value, f.by(f.sub(x, p), f.sub(at, p)))
		}
	}
	return value
}

// spotBy: what Place answers, by the document's words.
func spotBy(sort, k int, x api.Elem) api.Spot {
	f, last := fieldOf(sort), 1<<k-4
	at := f.of(x)
	usable := new(big.Int)
	for row := range last {
		usable = f.add(usable, f.lagrange(k, row, at))
	}
	return api.Spot{X: elemOf(at), First: elemOf(f.lagrange(k, 0, at)), Last: elemOf(f.lagrange(k, last, at)), Usable: elemOf(usable)}
}

func placed(t *testing.T, sort, k int, x api.Elem, want api.Spot, wrong api.Errno) {
	t.Helper()
	if got, e := Place(sort, k, x); got != want || e != wrong {
		t.Errorf("Place(%d, %d, %v): %v, %d, not %v, %d", sort, k, x, got, e, want, wrong)
	}
}

// P16.1

// At 0 each of the 2^k polynomials is 1 by 2^k.
func TestPlaceByHand(t *testing.T) {
	// 1 by 8 and 1 by 2, where 2 times 8,256,769 and 8 times 14,449,345 are 1.
	placed(t, 0, 3, api.Elem{}, api.Spot{First: api.Elem{14449345}, Last: api.Elem{14449345}, Usable: api.Elem{8256769}}, 0)
	// 1 is the point of the row 0.
	placed(t, 0, 3, api.Elem{1}, api.Spot{X: api.Elem{1}, First: api.Elem{1}, Usable: api.Elem{1}}, 0)
	// The modulus less 1 is the point in the middle: of 8 rows the row 4, the first one that isn't usable; of 16 a usable one.
	placed(t, 0, 3, api.Elem{16513536}, api.Spot{X: api.Elem{16513536}, Last: api.Elem{1}}, 0)
	placed(t, 0, 4, api.Elem{16513536}, api.Spot{X: api.Elem{16513536}, Usable: api.Elem{1}}, 0)
}

// At the domain's points it is told which row is the first one, which the last one, and which are usable.
func TestPlaceInEachRow(t *testing.T) {
	sizes(func(sort, k int) {
		f, last := fieldOf(sort), 1<<k-4
		for row := range 1 << k {
			x := elemOf(f.point(k, row))
			want := api.Spot{X: x}
			if row == 0 {
				want.First = api.Elem{1}
			}
			if row == last {
				want.Last = api.Elem{1}
			}
			if row < last {
				want.Usable = api.Elem{1}
			}
			placed(t, sort, k, x, want, 0)
			placed(t, sort, k, lifted(sort, x), want, 0)
		}
	})
}

func TestPlaceAnywhere(t *testing.T) {
	s := stream(10)
	sizes(func(sort, k int) {
		for _, x := range append(s.elems(sort, 4), api.Elem{}, api.Elem{1}, api.Elem{2}, api.Elem{7}, greatest, beside(sort, 0, 1), beside(sort, -1, 1), beside(sort, 7, 2)) {
			placed(t, sort, k, x, spotBy(sort, k, x), 0)
		}
	})
}

// A wrong sort is told ahead of a wrong size.
func TestPlaceRefuses(t *testing.T) {
	for _, x := range []api.Elem{{}, {1}, {7}, greatest} {
		for _, sort := range wrongSorts {
			for _, k := range append([]int{3, 4, 5}, wrongSizes...) {
				placed(t, sort, k, x, api.Spot{}, api.ErrSort)
			}
		}
		for sort := range 4 {
			for _, k := range wrongSizes {
				placed(t, sort, k, x, api.Spot{}, api.ErrSize)
			}
		}
	}
}
