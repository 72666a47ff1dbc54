package multi

import (
	"math"
	"math/big"
	"slices"

	"sigil/api"
	"sigil/curve"
)

var greatest = api.Elem{math.MaxUint64, math.MaxUint64, math.MaxUint64, math.MaxUint64}

// wrongCurves: numbers that are no curve's.
var wrongCurves = []int{-1, 4, -2, 5, 6, 7, 8, 256, -4, math.MinInt, math.MaxInt, 1 << 32, -1 << 32}

// wrongSizes: numbers that are no K.
var wrongSizes = []int{-1, 6, 7, 62, 63, 64, 256, math.MinInt, math.MaxInt, 1 << 32, 1<<32 + 2}

var infinity = api.Point{Inf: true}

// orderOf: the modulus of a curve's scalars, as the document says it.
func orderOf(c int) *big.Int {
	n, ok := new(big.Int).SetString([]string{
		"16521217",
		"16513537",
		"0x40000000000000000000000000000000224698fc0994a8dd8c46eb2100000001",
		"0x40000000000000000000000000000000224698fc094cf91b992d30ed00000001",
	}[c], 0)
	if !ok {
		panic(c)
	}
	return n
}

// bigOf: the number as math/big has it, for answers worked out another way.
func bigOf(e api.Elem) *big.Int {
	n := new(big.Int)
	for i := len(e) - 1; i >= 0; i-- {
		n.Lsh(n, 64).Or(n, new(big.Int).SetUint64(e[i]))
	}
	return n
}

// elemOf: a number from 0 to 2^256 - 1.
func elemOf(n *big.Int) api.Elem {
	if n.Sign() < 0 || n.BitLen() > 256 {
		panic(n.String())
	}
	var e api.Elem
	for i := range e {
		e[i] = new(big.Int).And(new(big.Int).Rsh(n, uint(64*i)), bigOf(api.Elem{math.MaxUint64})).Uint64()
	}
	return e
}

func elemsOf(list []*big.Int) []api.Elem {
	var out []api.Elem
	for _, n := range list {
		out = append(out, elemOf(n))
	}
	return out
}

func shifted(n *big.Int, by int64) api.Elem { return elemOf(new(big.Int).Add(n, big.NewInt(by))) }

// zeros: numbers that stand for 0 among the curve's scalars.
func zeros(c int) []api.Elem {
	return []api.Elem{{}, elemOf(orderOf(c)), elemOf(new(big.Int).Lsh(orderOf(c), 1))}
}

// stream gives the same numbers at every run.
type stream uint64

func (s *stream) word() uint64 {
	*s += 0x9e3779b97f4a7c15
	z := uint64(*s)
	z = (z ^ z>>30) * 0xbf58476d1ce4e5b9
	z = (z ^ z>>27) * 0x94d049bb133111eb
	return z ^ z>>31
}

// below: a number from 0 to n - 1.
func (s *stream) below(n int) int { return int(s.word() % uint64(n)) }

func (s *stream) elem() api.Elem { return api.Elem{s.word(), s.word(), s.word(), s.word()} }

func (s *stream) elems(n int) []api.Elem {
	list := make([]api.Elem, n)
	for i := range list {
		list[i] = s.elem()
	}
	return list
}

// order: the numbers 0 to n - 1 in any order.
func (s *stream) order(n int) []int {
	list := make([]int, n)
	for i := range list {
		j := s.below(i + 1)
		list[i], list[j] = list[j], i
	}
	return list
}

// scalarsBy reckons with a curve's scalars, and with polynomials over them, by math/big.
type scalarsBy struct{ order *big.Int }

func (f scalarsBy) of(e api.Elem) *big.Int { return f.rest(bigOf(e)) }

func (f scalarsBy) rest(n *big.Int) *big.Int { return new(big.Int).Mod(n, f.order) }

func (f scalarsBy) list(es []api.Elem) []*big.Int {
	var out []*big.Int
	for _, e := range es {
		out = append(out, f.of(e))
	}
	return out
}

func (f scalarsBy) add(a, b *big.Int) *big.Int { return f.rest(new(big.Int).Add(a, b)) }

func (f scalarsBy) sub(a, b *big.Int) *big.Int { return f.rest(new(big.Int).Sub(a, b)) }

func (f scalarsBy) mul(a *big.Int, more ...*big.Int) *big.Int {
	for _, b := range more {
		a = f.rest(new(big.Int).Mul(a, b))
	}
	return a
}

func (f scalarsBy) inv(a *big.Int) *big.Int { return new(big.Int).ModInverse(a, f.order) }

func (f scalarsBy) power(a *big.Int, n int) *big.Int {
	return new(big.Int).Exp(a, big.NewInt(int64(n)), f.order)
}

// root: the root of unity of a size.
func (f scalarsBy) root(k int) *big.Int {
	part := new(big.Int).Rsh(new(big.Int).Sub(f.order, big.NewInt(1)), uint(k))
	return new(big.Int).Exp(big.NewInt(5), part, f.order)
}

// valueAt: a polynomial's value.
func (f scalarsBy) valueAt(coeffs []*big.Int, x *big.Int) *big.Int {
	sum := new(big.Int)
	for i, c := range coeffs {
		sum = f.add(sum, f.mul(c, f.power(x, i)))
	}
	return sum
}

// addTimes: a and k times b.
func (f scalarsBy) addTimes(a []*big.Int, k *big.Int, b []*big.Int) []*big.Int {
	out := slices.Clone(a)
	for i, c := range b {
		if i == len(out) {
			out = append(out, new(big.Int))
		}
		out[i] = f.add(out[i], f.mul(k, c))
	}
	return out
}

// times: the polynomial a times (X - x).
func (f scalarsBy) times(a []*big.Int, x *big.Int) []*big.Int {
	up := append([]*big.Int{new(big.Int)}, a...)
	return f.addTimes(up, f.sub(new(big.Int), x), a)
}

// through: the polynomial through points, by Lagrange's way.
func (f scalarsBy) through(xs, ys []*big.Int) []*big.Int {
	var sum []*big.Int
	for i, x := range xs {
		part, below := []*big.Int{big.NewInt(1)}, big.NewInt(1)
		for j, other := range xs {
			if j != i {
				part, below = f.times(part, other), f.mul(below, f.sub(x, other))
			}
		}
		sum = f.addTimes(sum, f.mul(ys[i], f.inv(below)), part)
	}
	return sum
}

// parted: the polynomial a divided by (X - x); it is 0 at x.
func (f scalarsBy) parted(a []*big.Int, x *big.Int) []*big.Int {
	out := make([]*big.Int, len(a))
	carry := new(big.Int)
	for i := len(a) - 1; i >= 0; i-- {
		out[i] = carry
		carry = f.add(f.mul(carry, x), a[i])
	}
	if carry.Sign() != 0 {
		panic("the polynomial isn't 0 there")
	}
	return out
}

// pointsBy: the sum of points, so often each, by curve.Mul and curve.Add.
func pointsBy(c int, ks []*big.Int, points ...api.Point) api.Point {
	sum := infinity
	for i, k := range ks {
		sum = curve.Add(c, sum, curve.Mul(c, elemOf(k), points[i]))
	}
	return sum
}

// sizes: the curves and the sizes that tests go through; the great curves take longer.
func sizes(look func(c, k int)) {
	for c := range 4 {
		for k := range api.MaxK + 1 {
			if c < 2 || k < 3 {
				look(c, k)
			}
		}
	}
}
