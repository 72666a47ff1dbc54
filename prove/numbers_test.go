package prove

import (
	"math"
	"math/big"

	"sigil/api"
)

var greatest = api.Elem{math.MaxUint64, math.MaxUint64, math.MaxUint64, math.MaxUint64}

// wrongCurves: numbers that are no curve's.
var wrongCurves = []int{-1, 4, -2, 5, 256, -4, math.MinInt, math.MaxInt, 1 << 32, -1 << 32}

// wrongSizes: numbers that are no size of a proof.
var wrongSizes = []int{2, 6, 1, 0, 7, -1, -3, 30, 31, 62, 63, 64, 67, 256 + 3, 1<<32 + 3, math.MinInt, math.MaxInt}

// orderOf: the modulus of a curve's scalars, as the document says it.
func orderOf(c int) *big.Int {
	n, ok := new(big.Int).SetString([]string{
		"16521217",
		"16513537",
		"0x40000000000000000000000000000000224698fc0994a8dd8c46eb2100000001",
		"0x40000000000000000000000000000000224698fc094cf91b992d30ed00000001",
	}[c], 0)
	if !ok {
		panic(c)
	}
	return n
}

// adicityOf: how often 2 divides that modulus less 1.
func adicityOf(c int) uint { return []uint{11, 9, 32, 32}[c] }

// bigOf: the number as math/big has it, for answers worked out another way.
func bigOf(e api.Elem) *big.Int {
	n := new(big.Int)
	for i := len(e) - 1; i >= 0; i-- {
		n.Lsh(n, 64).Or(n, new(big.Int).SetUint64(e[i]))
	}
	return n
}

// elemOf: a number from 0 to 2^256 - 1.
func elemOf(n *big.Int) api.Elem {
	if n.Sign() < 0 || n.BitLen() > 256 {
		panic(n.String())
	}
	var e api.Elem
	for i := range e {
		e[i] = new(big.Int).And(new(big.Int).Rsh(n, uint(64*i)), bigOf(api.Elem{math.MaxUint64})).Uint64()
	}
	return e
}

// beside: a number that stands for the same scalar: as many times the modulus more.
func beside(c int, e api.Elem, often int64) api.Elem {
	n := new(big.Int).Mod(bigOf(e), orderOf(c))
	return elemOf(n.Add(n, new(big.Int).Mul(orderOf(c), big.NewInt(often))))
}

// stream gives the same numbers at every run.
type stream uint64

func (s *stream) word() uint64 {
	*s += 0x9e3779b97f4a7c15
	z := uint64(*s)
	z = (z ^ z>>30) * 0xbf58476d1ce4e5b9
	z = (z ^ z>>27) * 0x94d049bb133111eb
	return z ^ z>>31
}

// below: a number from 0 to n - 1.
func (s *stream) below(n int) int { return int(s.word() % uint64(n)) }

func (s *stream) elem() api.Elem { return api.Elem{s.word(), s.word(), s.word(), s.word()} }

func (s *stream) elems(n int) []api.Elem {
	list := make([]api.Elem, n)
	for i := range list {
		list[i] = s.elem()
	}
	return list
}

// order: the numbers 0 to n - 1 in any order.
func (s *stream) order(n int) []int {
	list := make([]int, n)
	for i := range list {
		j := s.below(i + 1)
		list[i], list[j] = list[j], i
	}
	return list
}

// line is a polynomial, the least power first; a number is a line of one coefficient.
type line []*big.Int

// lines reckons with polynomials over a curve's scalars by math/big.
type lines struct{ order *big.Int }

func (f lines) rest(n *big.Int) *big.Int { return new(big.Int).Mod(n, f.order) }

func (f lines) number(n int64) line { return line{f.rest(big.NewInt(n))} }

func (f lines) of(es ...api.Elem) line {
	var out line
	for _, e := range es {
		out = append(out, f.rest(bigOf(e)))
	}
	return out
}

func (f lines) add(a, b line) line {
	out := make(line, max(len(a), len(b)))
	for i := range out {
		out[i] = new(big.Int)
		if i < len(a) {
			out[i].Add(out[i], a[i])
		}
		if i < len(b) {
			out[i].Add(out[i], b[i])
		}
		out[i].Mod(out[i], f.order)
	}
	return out
}

func (f lines) mul(a line, more ...line) line {
	for _, b := range more {
		out := make(line, max(len(a)+len(b)-1, 0))
		for i := range out {
			out[i] = new(big.Int)
		}
		for i, v := range a {
			for j, w := range b {
				out[i+j].Add(out[i+j], new(big.Int).Mul(v, w))
			}
		}
		for i := range out {
			out[i].Mod(out[i], f.order)
		}
		a = out
	}
	return a
}

func (f lines) sub(a, b line) line { return f.add(a, f.mul(b, f.number(-1))) }

func (f lines) inv(a *big.Int) *big.Int { return new(big.Int).ModInverse(a, f.order) }

func (f lines) power(a *big.Int, n int) *big.Int {
	return new(big.Int).Exp(a, big.NewInt(int64(n)), f.order)
}

// root: the root of unity of a size.
func (f lines) root(k int) *big.Int {
	part := new(big.Int).Rsh(new(big.Int).Sub(f.order, big.NewInt(1)), uint(k))
	return new(big.Int).Exp(big.NewInt(5), part, f.order)
}

// points: the points of the rows.
func (f lines) points(k int) []*big.Int {
	list, root := []*big.Int{big.NewInt(1)}, f.root(k)
	for len(list) < 1<<k {
		list = append(list, f.rest(new(big.Int).Mul(list[len(list)-1], root)))
	}
	return list
}

// around: a row's number modulo how many there are.
func around(k, row int) int { return (row%(1<<k) + 1<<k) % (1 << k) }

// point: the point of a row, or one so many rows back.
func (f lines) point(k, row int) *big.Int { return f.points(k)[around(k, row)] }

// at: a polynomial's value.
func (f lines) at(a line, x *big.Int) *big.Int {
	sum := new(big.Int)
	for i := len(a) - 1; i >= 0; i-- {
		sum = f.rest(new(big.Int).Add(new(big.Int).Mul(sum, x), a[i]))
	}
	return sum
}

// turned: the polynomial of which the value at X is that of a at w^rot X.
func (f lines) turned(a line, k, rot int) line {
	out, points := make(line, len(a)), f.points(k)
	for i, v := range a {
		out[i] = f.rest(new(big.Int).Mul(v, points[around(k, rot*i)]))
	}
	return out
}

// through: the polynomial that has these values in the rows: the sum of each value times what is 1 in its row.
func (f lines) through(k int, values []api.Elem) line {
	share, points := f.inv(big.NewInt(1<<k)), f.points(k)
	out := make(line, 1<<k)
	for i := range out {
		out[i] = new(big.Int)
		for row, v := range values {
			out[i].Add(out[i], new(big.Int).Mul(bigOf(v), points[around(k, -row*i)]))
		}
		out[i] = f.rest(out[i].Mul(out[i], share))
	}
	return out
}

// elems: n coefficients from a place on.
func (f lines) elems(a line, from, n int) []api.Elem {
	list := make([]api.Elem, n)
	for i := range list {
		if from+i < len(a) {
			list[i] = elemOf(a[from+i])
		}
	}
	return list
}
