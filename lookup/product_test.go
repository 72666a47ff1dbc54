package lookup

import (
	"math/big"
	"slices"
	"testing"

	"sigil/api"
	"sigil/tape"
)

// P17.3

func TestProductByHand(t *testing.T) {
	for sort := range 4 {
		a := asked{
			sort: sort, k: 3, beta: api.Elem{2}, gamma: api.Elem{3},
			lists: [ofAll][]api.Elem{elemsOf(10, 0, 4, 1), elemsOf(1, 2, 3, 4), elemsOf(4, 0, 1, 1), elemsOf(1, 2, 0, 4)},
			coins: []api.Elem{{7}, beside(sort, 0, 1), beside(sort, 3, 2), {9}},
		}
		// 12 * 4 by 6 * 4; 2 * 5 by 2 * 5; 6 * 6 by 3 * 3; 3 * 7 by 3 * 7.
		want := []api.Elem{{1}, {2}, {2}, {8}, {8}, {7}, {}, {3}}
		if z, rest, e := a.answered(); e != api.OK || !slices.Equal(z, want) || !slices.Equal(rest, elemsOf(9)) {
			t.Errorf("%v, %v, %d", z, rest, e)
		}
		// By other challenges the inputs are told with gamma no more: 11 * 7 by 5 * 7 and so on.
		a.beta, a.gamma = api.Elem{1}, api.Elem{6}
		f := fieldOf(sort)
		first := f.by(big.NewInt(11), big.NewInt(5))
		third := f.by(f.mul(first, big.NewInt(5*9)), big.NewInt(2*6))
		want = []api.Elem{{1}, elemOf(first), elemOf(first), elemOf(third), elemOf(third), {7}, {}, {3}}
		if z, _, e := a.answered(); e != api.OK || !slices.Equal(z, want) {
			t.Errorf("%v, %d", z, e)
		}
	}
}

func TestProductOfAny(t *testing.T) {
	s := stream(30)
	sizes(func(sort, k int) {
		for range 8 {
			if e := s.any(sort, k).told(t); e != api.OK {
				t.Error(e)
			}
		}
	})
}

// Challenges of 0 and others by which few values are told apart: some divisors are 0, and some products.
func TestProductByAnyChallenges(t *testing.T) {
	s := stream(31)
	met := map[api.Errno]int{}
	for range 60 {
		sizes(func(sort, k int) {
			a := s.any(sort, k)
			if s.below(2) == 0 {
				a.beta, a.gamma = beside(sort, s.below(3), s.below(4)), beside(sort, s.below(5), s.below(4))
			} else if s.below(2) == 0 {
				a = a.zeroAt(s.below(ofAll), s.below(1<<k-4))
			}
			if s.below(3) == 0 {
				a.coins = a.coins[:s.below(len(a.coins)+1)]
			}
			met[a.told(t)]++
		})
	}
	for _, e := range []api.Errno{api.OK, api.ErrDegenerate, api.ErrTape} {
		if met[e] < 20 {
			t.Errorf("%d with %d are too few", met[e], e)
		}
	}
}

// Where the inputs are found, the product ends with 1; where one of them is another value, it doesn't.
func TestProductOfFound(t *testing.T) {
	s := stream(32)
	sizes(func(sort, k int) {
		u := 1<<k - 4
		for range 6 {
			a := s.lookedUp(t, sort, k)
			a.told(t)
			z, _, e := a.answered()
			if e != api.OK || len(z) != 1<<k || z[0] != (api.Elem{1}) || z[u] != (api.Elem{1}) {
				t.Errorf("%v: %v, %d", a, z, e)
			}
			for list := range ofAll {
				b := a.cloned()
				at := &b.lists[list][s.below(u)]
				*at = elemOf(fieldOf(sort).add(big.NewInt(1), bigOf(*at)))
				if z, _, e := b.answered(); e != api.OK || z[u] == (api.Elem{1}) {
					t.Errorf("%v: %v, %d", b, z, e)
				}
			}
		}
	})
}

// Where the inputs and the tables stand as they do when they are put in order, nothing grows.
func TestProductOfTheSame(t *testing.T) {
	s := stream(33)
	sizes(func(sort, k int) {
		a := s.any(sort, k)
		a.lists[ofSorted], a.lists[ofMatched] = liftedList(sort, a.lists[ofInputs]), liftedList(sort, a.lists[ofTables])
		z, _, e := a.answered()
		if e != api.OK || !slices.Equal(z[:1<<k-3], slices.Repeat([]api.Elem{{1}}, 1<<k-3)) {
			t.Errorf("%v, %d", z, e)
		}
	})
}

// A wrong sort and a wrong size, each told ahead of all that come behind it.
func TestProductRefuses(t *testing.T) {
	s := stream(34)
	for _, sort := range wrongSorts {
		a := s.any(0, 3)
		a.sort = sort
		a.refused(t, 0, api.ErrSort)
		a.lists[ofMatched] = nil
		a.refused(t, 0, api.ErrSort)
		for _, k := range wrongSizes {
			a.k = k
			a.refused(t, 0, api.ErrSort)
		}
		asked{sort: sort, k: 3}.refused(t, 0, api.ErrSort)
	}
	for _, k := range wrongSizes {
		a := s.any(k&3, 3)
		a.k = k
		a.refused(t, 0, api.ErrSize)
		a.lists[ofSorted] = nil
		a.refused(t, 0, api.ErrSize)
		asked{sort: k & 3, k: k}.refused(t, 0, api.ErrSize)
	}
	// A size whose usable rows the lists have, but that is none of an argument.
	for _, k := range []int{0, 1, 2, 6, 7} {
		s.any(k&3, k).refused(t, 0, api.ErrSize)
	}
}

// One list of another length, be the others as they should be or not.
func TestProductOfLists(t *testing.T) {
	s := stream(35)
	sizes(func(sort, k int) {
		n, u := 1<<k, 1<<k-4
		for list := range ofAll {
			for _, rows := range []int{0, 1, u - 1, u + 1, n, 2 * u, 1000} {
				a := s.any(sort, k)
				a.lists[list] = s.elems(sort, rows)
				a.refused(t, 0, api.ErrLength)
				a.coins = nil
				a.refused(t, 0, api.ErrLength)
				// A divisor that is 0 is told behind.
				a.beta, a.gamma = api.Elem{}, api.Elem{}
				for i := range a.lists {
					a.lists[i] = make([]api.Elem, len(a.lists[i]))
				}
				a.refused(t, 0, api.ErrLength)
				for i := range a.lists {
					a.lists[i] = make([]api.Elem, rows)
				}
				a.refused(t, 0, api.ErrLength)
			}
			a := s.any(sort, k)
			a.lists[list] = nil
			a.refused(t, 0, api.ErrLength)
		}
		asked{sort: sort, k: k}.refused(t, 0, api.ErrLength)
		// As many, but of another size's rows.
		a := s.any(sort, k)
		for _, other := range []int{3, 4, 5} {
			if a.k = other; other != k {
				a.refused(t, 0, api.ErrLength)
			}
		}
	})
}

// A divisor of 0 in any row is refused, and no coin is taken; it is told ahead of a coin that is missing.
func TestProductOfDivisors(t *testing.T) {
	s := stream(36)
	sizes(func(sort, k int) {
		u := 1<<k - 4
		a := s.any(sort, k)
		for _, list := range []int{ofSorted, ofMatched} {
			for row := range u {
				b := a.zeroAt(list, row)
				b.refused(t, 0, api.ErrDegenerate)
				for count := range 4 {
					b.coins = s.elems(sort, count)
					b.refused(t, 0, api.ErrDegenerate)
				}
				// Above it is 0 too, or has been in the row 0.
				b.zeroAt(list-ofSorted, row).refused(t, 0, api.ErrDegenerate)
				b.zeroAt(ofInputs, 0).refused(t, 0, api.ErrDegenerate)
				b.zeroAt(ofTables, 0).refused(t, 0, api.ErrDegenerate)
			}
		}
		// Nothing but zeros.
		zeros := asked{sort: sort, k: k, coins: s.elems(sort, 3)}
		for i := range zeros.lists {
			zeros.lists[i] = make([]api.Elem, u)
		}
		zeros.refused(t, 0, api.ErrDegenerate)
		zeros.beta = api.Elem{1}
		zeros.refused(t, 0, api.ErrDegenerate)
		zeros.beta, zeros.gamma = beside(sort, 0, 3), api.Elem{1}
		zeros.refused(t, 0, api.ErrDegenerate)
		zeros.beta = beside(sort, 1, 1)
		if e := zeros.told(t); e != api.OK {
			t.Error(e)
		}
	})
}

// Each list is told with its own challenge: the other one's opposite is nothing to refuse.
func TestProductOfTheOtherChallenge(t *testing.T) {
	s := stream(37)
	sizes(func(sort, k int) {
		f := fieldOf(sort)
		a := s.any(sort, k)
		a.lists[ofSorted][1] = elemOf(f.sub(new(big.Int), f.of(a.gamma)))
		a.lists[ofMatched][2] = elemOf(f.sub(new(big.Int), f.of(a.beta)))
		if e := a.told(t); e != api.OK {
			t.Error(e)
		}
	})
}

// A factor of 0 above makes all that follows 0, up to the coins, and is nothing to refuse.
func TestProductOfZeros(t *testing.T) {
	s := stream(38)
	sizes(func(sort, k int) {
		u := 1<<k - 4
		for _, list := range []int{ofInputs, ofTables} {
			for _, row := range []int{0, 1, u - 1} {
				a := s.any(sort, k).zeroAt(list, row)
				a.told(t)
				z, _, e := a.answered()
				if e != api.OK || !slices.Equal(z[row+1:u+1], make([]api.Elem, u-row)) {
					t.Errorf("%v: %v, %d", a, z, e)
				}
			}
		}
	})
}

// Three coins are taken, in order, and no more; where one is missing, those that were there are taken.
func TestProductOfCoins(t *testing.T) {
	s := stream(39)
	sizes(func(sort, k int) {
		a := s.any(sort, k)
		a.coins = s.elems(sort, 5)
		z, rest, e := a.answered()
		if e != api.OK || len(z) != 1<<k || !slices.Equal(rest, a.coins[3:]) {
			t.Fatalf("%d, and %v is left", e, rest)
		}
		for i, v := range z[1<<k-3:] {
			if v != elemOf(fieldOf(sort).of(a.coins[i])) {
				t.Errorf("%v, not %v", v, a.coins[i])
			}
		}
		for count := range 3 {
			short := a
			short.coins = a.coins[:count]
			short.refused(t, count, api.ErrTape)
		}
		a.coins = a.coins[:3]
		a.told(t)
	})
}

// A purse that isn't there has no coins.
func TestProductWithoutPurse(t *testing.T) {
	s := stream(40)
	a := s.any(1, 3)
	if z, e := a.by(nil); len(z) != 0 || e != api.ErrTape {
		t.Errorf("%v, %d", z, e)
	}
	if z, e := a.zeroAt(ofMatched, 3).by(nil); len(z) != 0 || e != api.ErrDegenerate {
		t.Errorf("%v, %d", z, e)
	}
	a.k = 2
	if z, e := a.by(nil); len(z) != 0 || e != api.ErrSize {
		t.Errorf("%v, %d", z, e)
	}
}

// One purse serves several calls, each of which goes on where the one ahead stopped.
func TestProductOfOnePurse(t *testing.T) {
	s := stream(41)
	a := s.any(0, 3)
	coins := s.elems(0, 7)
	c := tape.Purse(coins)
	for _, from := range []int{0, 3} {
		z, e := a.by(c)
		a.coins = coins[from:]
		if want, _, _ := a.byWords(); e != api.OK || !slices.Equal(z, want) {
			t.Errorf("%v, %d, not %v", z, e, want)
		}
		// What is refused ahead of the coins takes none.
		a.zeroAt(ofSorted, 0).by(c)
	}
	if _, e := a.by(c); e != api.ErrTape {
		t.Error(e)
	}
}

// Numbers above the modulus stand for their remainders.
func TestProductOfRemainders(t *testing.T) {
	s := stream(42)
	sizes(func(sort, k int) {
		a := s.any(sort, k)
		want, _, e := a.answered()
		b := a.cloned()
		b.beta, b.gamma, b.coins = lifted(sort, a.beta), lifted(sort, a.gamma), liftedList(sort, a.coins)
		for i, list := range a.lists {
			b.lists[i] = liftedList(sort, list)
		}
		if got, _, again := b.answered(); !slices.Equal(got, want) || again != e || e != api.OK {
			t.Errorf("%v, %d, not %v, %d", got, again, want, e)
		}
	})
}
