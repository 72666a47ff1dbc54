package verify

import (
	"math"
	"math/big"

	"sigil/api"
)

var greatest = api.Elem{math.MaxUint64, math.MaxUint64, math.MaxUint64, math.MaxUint64}

// wrongCurves: numbers that are no curve's.
var wrongCurves = []int{-1, 4, -2, 5, 256, -4, math.MinInt, math.MaxInt, 1 << 32, -1 << 32}

// orderOf: the modulus of a curve's scalars, as the document says it.
func orderOf(c int) *big.Int {
	n, ok := new(big.Int).SetString([]string{
		"16521217",
		"16513537",
		"0x40000000000000000000000000000000224698fc0994a8dd8c46eb2100000001",
		"0x40000000000000000000000000000000224698fc094cf91b992d30ed00000001",
	}[c], 0)
	if !ok {
		panic(c)
	}
	return n
}

// adicityOf: how often 2 divides that modulus less 1.
func adicityOf(c int) uint { return []uint{11, 9, 32, 32}[c] }

// bigOf: the number as math/big has it, for answers worked out another way.
func bigOf(e api.Elem) *big.Int {
	n := new(big.Int)
	for i := len(e) - 1; i >= 0; i-- {
		n.Lsh(n, 64).Or(n, new(big.Int).SetUint64(e[i]))
	}
	return n
}

// elemOf: a number from 0 to 2^256 - 1.
func elemOf(n *big.Int) api.Elem {
	if n.Sign() < 0 || n.BitLen() > 256 {
		panic(n.String())
	}
	var e api.Elem
	for i := range e {
		e[i] = new(big.Int).And(new(big.Int).Rsh(n, uint(64*i)), bigOf(api.Elem{math.MaxUint64})).Uint64()
	}
	return e
}

// beside: a number that stands for the same scalar: as many times the modulus more.
func beside(c int, e api.Elem, often int64) api.Elem {
	n := new(big.Int).Mod(bigOf(e), orderOf(c))
	return elemOf(n.Add(n, new(big.Int).Mul(orderOf(c), big.NewInt(often))))
}

// stream gives the same numbers at every run.
type stream uint64

func (s *stream) word() uint64 {
	*s += 0x9e3779b97f4a7c15
	z := uint64(*s)
	z = (z ^ z>>30) * 0xbf58476d1ce4e5b9
	z = (z ^ z>>27) * 0x94d049bb133111eb
	return z ^ z>>31
}

// below: a number from 0 to n - 1.
func (s *stream) below(n int) int { return int(s.word() % uint64(n)) }

func (s *stream) elem() api.Elem { return api.Elem{s.word(), s.word(), s.word(), s.word()} }

func (s *stream) elems(n int) []api.Elem {
	list := make([]api.Elem, n)
	for i := range list {
		list[i] = s.elem()
	}
	return list
}

// order: the numbers 0 to n - 1 in any order.
func (s *stream) order(n int) []int {
	list := make([]int, n)
	for i := range list {
		j := s.below(i + 1)
		list[i], list[j] = list[j], i
	}
	return list
}

// numbers reckons with a curve's scalars by math/big.
type numbers struct{ order *big.Int }

func (f numbers) rest(n *big.Int) *big.Int { return new(big.Int).Mod(n, f.order) }

func (f numbers) of(e api.Elem) *big.Int { return f.rest(bigOf(e)) }

func (f numbers) number(n int64) *big.Int { return f.rest(big.NewInt(n)) }

func (f numbers) add(list ...*big.Int) *big.Int {
	sum := new(big.Int)
	for _, v := range list {
		sum = f.rest(sum.Add(sum, v))
	}
	return sum
}

func (f numbers) mul(list ...*big.Int) *big.Int {
	product := big.NewInt(1)
	for _, v := range list {
		product = f.rest(product.Mul(product, v))
	}
	return product
}

func (f numbers) sub(a, b *big.Int) *big.Int { return f.rest(new(big.Int).Sub(a, b)) }

func (f numbers) inv(a *big.Int) *big.Int { return new(big.Int).ModInverse(a, f.order) }

func (f numbers) power(a *big.Int, n int) *big.Int {
	return new(big.Int).Exp(a, big.NewInt(int64(n)), f.order)
}

// point: the point of a row, or one so many rows back: a power of the root of unity of a size.
func (f numbers) point(k, row int) *big.Int {
	part := new(big.Int).Rsh(f.number(-1), uint(k))
	root := new(big.Int).Exp(big.NewInt(5), part, f.order)
	return f.power(root, (row%(1<<k)+1<<k)%(1<<k))
}

// inRow: the value at x, which is no row's point, of the polynomial that is 1 in a row and 0 in all others.
func (f numbers) inRow(k, row int, x *big.Int) *big.Int {
	point := f.point(k, row)
	above := f.mul(point, f.sub(f.power(x, 1<<k), big.NewInt(1)))
	return f.mul(above, f.inv(f.mul(big.NewInt(1<<k), f.sub(x, point))))
}

// through: the value at x of the polynomial that has these values in the rows.
func (f numbers) through(k int, values []api.Elem, x *big.Int) *big.Int {
	sum := new(big.Int)
	for row, v := range values {
		sum = f.add(sum, f.mul(f.of(v), f.inRow(k, row, x)))
	}
	return sum
}

// joined: several values as one: the last one times 1, the one ahead of it times c, and so on.
func (f numbers) joined(c *big.Int, values []*big.Int) *big.Int {
	sum := new(big.Int)
	for i, v := range values {
		sum = f.add(sum, f.mul(f.power(c, len(values)-1-i), v))
	}
	return sum
}
