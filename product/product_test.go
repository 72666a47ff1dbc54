package product_test

import (
	"math"
	"math/big"
	"slices"
	"testing"

	"sigil/api"
	"sigil/product"
	"sigil/tape"
)

// moduli: of the fields, as the document says them.
var moduli = []string{
	"16513537",
	"16521217",
	"0x40000000000000000000000000000000224698fc094cf91b992d30ed00000001",
	"0x40000000000000000000000000000000224698fc0994a8dd8c46eb2100000001",
}

var greatest = api.Elem{math.MaxUint64, math.MaxUint64, math.MaxUint64, math.MaxUint64}

var wrongSorts = []int{-1, 4, 5, -4, math.MinInt, math.MaxInt, 1 << 32}

func modulusOf(sort int) *big.Int {
	m, _ := new(big.Int).SetString(moduli[sort], 0)
	return m
}

func bigOf(e api.Elem) *big.Int {
	n := new(big.Int)
	for _, w := range slices.Backward(e[:]) {
		n.Lsh(n, 64).Or(n, new(big.Int).SetUint64(w))
	}
	return n
}

func elemOf(n *big.Int) api.Elem {
	var e api.Elem
	for i := range e {
		e[i] = new(big.Int).And(new(big.Int).Rsh(n, uint(64*i)), new(big.Int).SetUint64(math.MaxUint64)).Uint64()
	}
	return e
}

// number: a number of 256 bits, another one for each place.
func number(i int) api.Elem {
	n := uint64(i+1) * 0x9e3779b97f4a7c15
	return api.Elem{n, n * n, n ^ n>>31, n * 0xbf58476d1ce4e5b9}
}

// along: what Along answers where no divisor is 0, by math/big.
func along(sort int, start api.Elem, ratios []product.Ratio, coins []api.Elem) []api.Elem {
	m := modulusOf(sort)
	z := new(big.Int).Mod(bigOf(start), m)
	list := []api.Elem{elemOf(z)}
	for _, ratio := range ratios {
		z = new(big.Int).Mul(z, bigOf(ratio.Above))
		z.Mul(z, new(big.Int).ModInverse(bigOf(ratio.Below), m)).Mod(z, m)
		list = append(list, elemOf(z))
	}
	for _, coin := range coins[:3] {
		list = append(list, elemOf(new(big.Int).Mod(bigOf(coin), m)))
	}
	return list
}

func TestAlong(t *testing.T) {
	for sort := range 4 {
		modulus := elemOf(modulusOf(sort))
		for _, count := range []int{0, 1, 4, 12, 28} {
			for _, start := range []api.Elem{{1}, {}, modulus, greatest, number(500)} {
				var ratios []product.Ratio
				for i := range count {
					ratios = append(ratios, product.Ratio{Above: number(2 * i), Below: number(2*i + 1)})
				}
				coins := []api.Elem{number(100), modulus, greatest, {4}}
				c := tape.Purse(coins)
				kept := slices.Clone(ratios)
				z, e := product.Along(sort, start, ratios, c)
				if want := along(sort, start, ratios, coins); e != api.OK || !slices.Equal(z, want) || !slices.Equal(ratios, kept) {
					t.Errorf("%v, %d, not %v", z, e, want)
				}
				if v, e := c.Next(); e != api.OK || v != coins[3] {
					t.Errorf("%v, %d is left", v, e)
				}
			}
		}
	}
}

// A divisor of 0 is told ahead of a coin that is missing, and takes none; a missing coin is told once the others are taken.
func TestAlongRefuses(t *testing.T) {
	for sort := range 4 {
		for at := range 5 {
			for _, zero := range []api.Elem{{}, elemOf(modulusOf(sort))} {
				ratios := slices.Repeat([]product.Ratio{{Above: api.Elem{2}, Below: api.Elem{3}}}, 5)
				ratios[at].Below = zero
				for count := range 4 {
					c := tape.Purse(make([]api.Elem, count))
					if z, e := product.Along(sort, api.Elem{1}, ratios, c); len(z) != 0 || e != api.ErrDegenerate {
						t.Errorf("%v, %d", z, e)
					}
					for range count {
						if _, e := c.Next(); e != api.OK {
							t.Error("a coin was taken")
						}
					}
				}
				if z, e := product.Along(sort, api.Elem{1}, ratios, nil); len(z) != 0 || e != api.ErrDegenerate {
					t.Errorf("%v, %d", z, e)
				}
			}
		}
		for count := range 3 {
			c := tape.Purse(make([]api.Elem, count))
			if z, e := product.Along(sort, api.Elem{1}, nil, c); len(z) != 0 || e != api.ErrTape {
				t.Errorf("%v, %d", z, e)
			}
			if _, e := c.Next(); e != api.ErrTape {
				t.Error("a coin is left")
			}
		}
		if z, e := product.Along(sort, api.Elem{1}, nil, nil); len(z) != 0 || e != api.ErrTape {
			t.Errorf("%v, %d", z, e)
		}
	}
	for _, sort := range wrongSorts {
		for _, below := range []api.Elem{{}, {1}} {
			if z, e := product.Along(sort, api.Elem{1}, []product.Ratio{{Below: below}}, tape.Purse(make([]api.Elem, 3))); len(z) != 0 || e != api.ErrSort {
				t.Errorf("%v, %d", z, e)
			}
		}
	}
}

func TestCheck(t *testing.T) {
	sizes := []int{3, 4, 5}
	others := []int{2, 6, 0, -1, 7, 64 + 3, 1<<32 + 3, math.MinInt, math.MaxInt}
	for sort := range 4 {
		for _, k := range sizes {
			if e := product.Check(sort, k); e != api.OK {
				t.Errorf("Check(%d, %d): %d", sort, k, e)
			}
		}
		for _, k := range others {
			if e := product.Check(sort, k); e != api.ErrSize {
				t.Errorf("Check(%d, %d): %d", sort, k, e)
			}
		}
	}
	for _, sort := range wrongSorts {
		for _, k := range slices.Concat(sizes, others) {
			if e := product.Check(sort, k); e != api.ErrSort {
				t.Errorf("Check(%d, %d): %d", sort, k, e)
			}
		}
	}
}
