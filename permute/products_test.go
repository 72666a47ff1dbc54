package permute

import (
	"math/big"
	"slices"
	"testing"

	"sigil/api"
	"sigil/tape"
)

// P16.2

// One column of 1, 2, 3 and so on with the labels 10, 10, 10 and so on: beta is 0 at first, and 1 then.
func TestProductsByHand(t *testing.T) {
	a := asked{sort: 0, k: 3, cols: [][]api.Elem{nil}, sigmas: [][]api.Elem{nil}, gamma: api.Elem{5}, coins: []api.Elem{{7}, {16513537}, {16513540}, {9}}}
	for r := range 8 {
		a.cols[0], a.sigmas[0] = append(a.cols[0], api.Elem{uint64(r + 1)}), append(a.sigmas[0], api.Elem{10})
	}
	zs, rest, e := a.answered()
	if want := []api.Elem{{1}, {1}, {1}, {1}, {1}, {7}, {}, {3}}; e != api.OK || !sameColumns(zs, [][]api.Elem{want}) || !slices.Equal(rest, []api.Elem{{9}}) {
		t.Errorf("%v, %v, %d", zs, rest, e)
	}
	a.beta = api.Elem{1}
	zs, _, e = a.answered()
	if e != api.OK || len(zs) != 1 || len(zs[0]) != 8 {
		t.Fatal(zs, e)
	}
	// In the row 0 it is (1 + 1 + 5) / (1 + 10 + 5), for the first label is 1; in the row 1 (2 + w + 5) / (2 + 10 + 5).
	f := fieldOf(0)
	first := f.by(big.NewInt(7), big.NewInt(16))
	second := f.by(f.mul(first, f.add(big.NewInt(7), f.point(3, 1))), big.NewInt(17))
	if zs[0][1] != elemOf(first) || zs[0][2] != elemOf(second) {
		t.Errorf("%v", zs)
	}
}

func TestProductsOfAny(t *testing.T) {
	s := stream(20)
	sizes(func(sort, k int) {
		for columns := range 9 {
			s.any(sort, k, columns).told(t)
		}
	})
}

// Challenges of 0 and others by which few values are told apart: some divisors are 0, and some products.
func TestProductsByAnyChallenges(t *testing.T) {
	s := stream(32)
	refused := 0
	for range 30 {
		sizes(func(sort, k int) {
			a := s.any(sort, k, s.below(9))
			if s.below(2) == 0 {
				a.beta, a.gamma = beside(sort, s.below(3), s.below(4)), beside(sort, s.below(5), s.below(4))
			} else if s.below(2) == 0 && len(a.cols) > 0 {
				a = a.zeroAt(s.below(len(a.cols)), s.below(1<<k))
			}
			if s.below(3) == 0 {
				a.coins = a.coins[:s.below(len(a.coins)+1)]
			}
			a.told(t)
			if _, _, e := a.answered(); e == api.ErrDegenerate {
				refused++
			}
		})
	}
	if refused < 50 {
		t.Errorf("%d with a divisor of 0 are too few", refused)
	}
}

// Without columns there are no products, and no coin is taken, be there any or none.
func TestProductsWithoutColumns(t *testing.T) {
	sizes(func(sort, k int) {
		for _, coins := range [][]api.Elem{nil, {{5}}} {
			for _, lists := range [][][]api.Elem{nil, {}} {
				a := asked{sort: sort, k: k, cols: lists, sigmas: nil, coins: coins}
				a.refused(t, 0, api.OK)
				a.cols, a.sigmas = nil, lists
				a.refused(t, 0, api.OK)
			}
		}
	})
}

// Where all that are tied hold one value, the last product ends with 1; where one of them holds another, it doesn't.
func TestProductsOfTiedCells(t *testing.T) {
	s := stream(21)
	sizes(func(sort, k int) {
		for columns := 1; columns <= 8; columns++ {
			a, copies := s.tied(t, sort, k, columns)
			last := 1<<k - 4
			zs, _, e := a.answered()
			if e != api.OK || zs[len(zs)-1][last] != (api.Elem{1}) {
				t.Errorf("%v, %v, %d", a, zs, e)
			}
			for _, p := range copies {
				if p.A == p.B {
					continue
				}
				// The cell is tied, so that its value stands beside another label above and below.
				a.cols[p.A.Col][p.A.Row] = elemOf(fieldOf(sort).add(big.NewInt(1), bigOf(a.cols[p.A.Col][p.A.Row])))
				zs, _, e = a.answered()
				if e != api.OK || zs[len(zs)-1][last] == (api.Elem{1}) {
					t.Errorf("%v, %v, %d", a, zs, e)
				}
				break
			}
		}
	})
}

// Where each label is the cell's own, nothing grows, whatever the values are.
func TestProductsOfOwnLabels(t *testing.T) {
	s := stream(22)
	sizes(func(sort, k int) {
		a := s.any(sort, k, 5)
		for i := range a.sigmas {
			for r := range a.sigmas[i] {
				a.sigmas[i][r] = elemOf(fieldOf(sort).label(k, i, r))
			}
		}
		a.told(t)
		zs, _, e := a.answered()
		for _, z := range zs {
			if !slices.Equal(z[:1<<k-3], slices.Repeat([]api.Elem{{1}}, 1<<k-3)) {
				t.Errorf("%v, %d", zs, e)
			}
		}
	})
}

// A wrong sort, a wrong size, and lists that don't fit, each told ahead of all that come behind it.
func TestProductsRefuses(t *testing.T) {
	s := stream(23)
	for _, columns := range []int{0, 1, 3, 8, 9} {
		for _, sort := range wrongSorts {
			a := s.any(0, 3, columns)
			a.sort = sort
			a.refused(t, 0, api.ErrSort)
			a.sigmas = a.sigmas[columns/2:]
			a.refused(t, 0, api.ErrSort)
			for _, k := range wrongSizes {
				a.k = k
				a.refused(t, 0, api.ErrSort)
			}
		}
		for _, k := range wrongSizes {
			a := s.any(k&3, 3, columns)
			a.k = k
			a.refused(t, 0, api.ErrSize)
			a.sigmas = a.sigmas[columns/2:]
			a.refused(t, 0, api.ErrSize)
		}
	}
	// A size whose rows the columns have, but that is none of an argument.
	for _, k := range []int{0, 1, 2, 6, 7} {
		s.any(0, k, 2).refused(t, 0, api.ErrSize)
	}
}

// spoilt: one with lists that fit, and all of them with one list more, less, longer or shorter.
func (a asked) spoilt(look func(b asked)) {
	for _, list := range []func(b *asked) *[][]api.Elem{func(b *asked) *[][]api.Elem { return &b.cols }, func(b *asked) *[][]api.Elem { return &b.sigmas }} {
		b := a.cloned()
		*list(&b) = append(*list(&b), make([]api.Elem, 1<<a.k))
		look(b)
		b = a.cloned()
		*list(&b) = nil
		look(b)
		for i := range a.cols {
			b = a.cloned()
			*list(&b) = slices.Delete(*list(&b), i, i+1)
			look(b)
			for _, rows := range []int{0, 1, 1<<a.k - 4, 1<<a.k - 1, 1<<a.k + 1, 2 << a.k} {
				b = a.cloned()
				(*list(&b))[i] = make([]api.Elem, rows)
				look(b)
			}
		}
	}
}

func TestProductsOfLists(t *testing.T) {
	s := stream(24)
	sizes(func(sort, k int) {
		for _, columns := range []int{1, 2, 3, 8} {
			a := s.any(sort, k, columns)
			a.spoilt(func(b asked) {
				b.refused(t, 0, api.ErrLength)
				b.coins = nil
				b.refused(t, 0, api.ErrLength)
			})
			// A divisor that is 0 is told behind lists that don't fit.
			a.zeroAt(0, 0).spoilt(func(b asked) { b.refused(t, 0, api.ErrLength) })
		}
		for _, columns := range []int{9, 10, 16} {
			s.any(sort, k, columns).refused(t, 0, api.ErrLength)
			s.any(sort, k, columns).zeroAt(0, 0).refused(t, 0, api.ErrLength)
		}
		// As many lists, but of another size's rows.
		a := s.any(sort, k, 3)
		for _, other := range []int{3, 4, 5} {
			if a.k = other; other != k {
				a.refused(t, 0, api.ErrLength)
			}
		}
	})
	a := s.any(0, 3, 8)
	a.told(t)
	if _, _, e := a.by(); e != api.OK {
		t.Errorf("eight columns: %d", e)
	}
}

// A divisor of 0 in any usable row of any column is refused, once the chunks ahead have taken their coins; in other rows there is none.
func TestProductsOfDivisors(t *testing.T) {
	s := stream(25)
	sizes(func(sort, k int) {
		last := 1<<k - 4
		for _, columns := range []int{1, 2, 3, 5, 8} {
			a := s.any(sort, k, columns)
			if _, _, e := a.by(); e != api.OK {
				t.Fatalf("%v: %d", a, e)
			}
			for i := range columns {
				for _, row := range []int{0, 1, last / 2, last - 2, last - 1} {
					a.zeroAt(i, row).refused(t, i/2*3, api.ErrDegenerate)
				}
				for row := last; row < 1<<k; row++ {
					a.zeroAt(i, row).told(t)
				}
			}
		}
		// Nothing but zeros.
		zeros := [][]api.Elem{make([]api.Elem, 1<<k)}
		asked{sort: sort, k: k, cols: zeros, sigmas: zeros, coins: s.elems(sort, 3)}.refused(t, 0, api.ErrDegenerate)
		modulus := slices.Repeat([]api.Elem{beside(sort, 0, 1)}, 1<<k)
		asked{sort: sort, k: k, cols: [][]api.Elem{modulus}, sigmas: zeros, gamma: beside(sort, 0, 2), coins: s.elems(sort, 3)}.refused(t, 0, api.ErrDegenerate)
	})
}

// A factor of 0 above makes all that follows 0, in the further chunks too, and is nothing to refuse.
func TestProductsOfZeros(t *testing.T) {
	s := stream(26)
	sizes(func(sort, k int) {
		f, last := fieldOf(sort), 1<<k-4
		for column := range 5 {
			for _, row := range []int{0, 1, last - 1} {
				a := s.any(sort, k, 5)
				a.sigmas[column][row] = s.wide()
				a.cols[column][row] = elemOf(f.sub(new(big.Int), a.joined(api.Elem{}, f.label(k, column, row))))
				a.told(t)
				zs, _, e := a.answered()
				if e != api.OK || zs[column/2][row] == (api.Elem{}) || zs[column/2][row+1] != (api.Elem{}) || zs[2][last] != (api.Elem{}) {
					t.Errorf("%v: %v, %d", a, zs, e)
				}
			}
		}
	})
}

// Each chunk takes three coins, in order, and no more; where one is missing, those that were there are taken.
func TestProductsOfCoins(t *testing.T) {
	s := stream(27)
	sizes(func(sort, k int) {
		last := 1<<k - 4
		for columns := 1; columns <= 8; columns++ {
			a := s.any(sort, k, columns)
			needed := 3 * ((columns + 1) / 2)
			a.coins = s.elems(sort, needed+2)
			zs, rest, e := a.answered()
			if e != api.OK || !slices.Equal(rest, a.coins[needed:]) {
				t.Errorf("%d, and %v is left", e, rest)
			}
			var behind []api.Elem
			for _, z := range zs {
				behind = append(behind, z[last+1:]...)
			}
			for i, coin := range a.coins[:needed] {
				if behind[i] != elemOf(fieldOf(sort).of(coin)) {
					t.Errorf("%v, not %v", behind[i], coin)
				}
			}
			for count := range needed {
				short := a
				short.coins = a.coins[:count]
				short.refused(t, count, api.ErrTape)
			}
			a.coins = a.coins[:needed]
			a.told(t)
		}
	})
}

// In each chunk a divisor of 0 is told ahead of a missing coin; a coin that a chunk ahead misses is told ahead of both.
func TestProductsOfDivisorsAndCoins(t *testing.T) {
	s := stream(28)
	sizes(func(sort, k int) {
		a := s.any(sort, k, 7)
		for i := range 7 {
			b := a.zeroAt(i, s.below(1<<k-4))
			for count := range 13 {
				b.coins = s.elems(sort, count)
				b.told(t)
				if wanted := i / 2 * 3; count < wanted {
					b.refused(t, count, api.ErrTape)
				} else {
					b.refused(t, wanted, api.ErrDegenerate)
				}
			}
		}
	})
}

// A purse that isn't there has no coins.
func TestProductsWithoutPurse(t *testing.T) {
	s := stream(29)
	a := s.any(1, 3, 3)
	if zs, e := Products(a.sort, a.k, a.cols, a.sigmas, a.beta, a.gamma, nil); len(zs) != 0 || e != api.ErrTape {
		t.Errorf("%v, %d", zs, e)
	}
	a = a.zeroAt(0, 0)
	if zs, e := Products(a.sort, a.k, a.cols, a.sigmas, a.beta, a.gamma, nil); len(zs) != 0 || e != api.ErrDegenerate {
		t.Errorf("%v, %d", zs, e)
	}
	if zs, e := Products(a.sort, a.k, nil, nil, a.beta, a.gamma, nil); len(zs) != 0 || e != api.OK {
		t.Errorf("%v, %d", zs, e)
	}
}

// One purse serves several calls, each of which goes on where the one ahead stopped.
func TestProductsOfOnePurse(t *testing.T) {
	s := stream(30)
	a := s.any(0, 3, 3)
	coins := s.elems(0, 12)
	c := tape.Purse(coins)
	for _, from := range []int{0, 6} {
		zs, e := Products(a.sort, a.k, a.cols, a.sigmas, a.beta, a.gamma, c)
		a.coins = coins[from:]
		if want, _, _ := a.by(); e != api.OK || !sameColumns(zs, want) {
			t.Errorf("%v, %d, not %v", zs, e, want)
		}
	}
	if _, e := Products(a.sort, a.k, a.cols, a.sigmas, a.beta, a.gamma, c); e != api.ErrTape {
		t.Error(e)
	}
}

// Numbers above the modulus stand for their remainders.
func TestProductsOfRemainders(t *testing.T) {
	s := stream(31)
	sizes(func(sort, k int) {
		a := s.any(sort, k, 4)
		want, _, e := a.answered()
		b := a.cloned()
		b.beta, b.gamma = lifted(sort, a.beta), lifted(sort, a.gamma)
		for _, lists := range [][][]api.Elem{b.cols, b.sigmas, {b.coins}} {
			for _, values := range lists {
				for i, v := range values {
					values[i] = lifted(sort, v)
				}
			}
		}
		if got, _, again := b.answered(); !sameColumns(got, want) || again != e {
			t.Errorf("%v, %d, not %v, %d", got, again, want, e)
		}
	})
}
