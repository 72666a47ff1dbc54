package lookup

import (
	"math"
	"math/big"
	"slices"

	"sigil/api"
	"sigil/tape"
)

var greatest = api.Elem{math.MaxUint64, math.MaxUint64, math.MaxUint64, math.MaxUint64}

// wrongSorts: numbers that are no field's.
var wrongSorts = []int{-1, 4, -2, 5, 6, 7, 8, 256, -4, math.MinInt, math.MaxInt, 1 << 32, -1 << 32}

// wrongSizes: numbers that are no size of an argument.
var wrongSizes = []int{2, 6, 1, 0, 7, 9, 10, -1, -3, 30, 31, 62, 63, 64, 67, 256 + 3, 1<<32 + 3, math.MinInt, math.MaxInt}

// modulusOf: a field's modulus, as the document says it.
func modulusOf(sort int) *big.Int {
	n, ok := new(big.Int).SetString([]string{
		"16513537",
		"16521217",
		"0x40000000000000000000000000000000224698fc094cf91b992d30ed00000001",
		"0x40000000000000000000000000000000224698fc0994a8dd8c46eb2100000001",
	}[sort], 0)
	if !ok {
		panic(sort)
	}
	return n
}

// bigOf: the number as math/big has it, for answers worked out another way.
func bigOf(e api.Elem) *big.Int {
	n := new(big.Int)
	for i := len(e) - 1; i >= 0; i-- {
		n.Lsh(n, 64).Or(n, new(big.Int).SetUint64(e[i]))
	}
	return n
}

// elemOf: a number from 0 to 2^256 - 1.
func elemOf(n *big.Int) api.Elem {
	if n.Sign() < 0 || n.BitLen() > 256 {
		panic(n.String())
	}
	var e api.Elem
	for i := range e {
		e[i] = new(big.Int).And(new(big.Int).Rsh(n, uint(64*i)), bigOf(api.Elem{math.MaxUint64})).Uint64()
	}
	return e
}

// beside: a small number, and the modulus so often.
func beside(sort, small, often int) api.Elem {
	n := new(big.Int).Mul(modulusOf(sort), big.NewInt(int64(often)))
	return elemOf(n.Add(n, big.NewInt(int64(small))))
}

// lifted: another number that stands for the same element.
func lifted(sort int, v api.Elem) api.Elem {
	n := new(big.Int).Mod(bigOf(v), modulusOf(sort))
	return elemOf(n.Add(n, modulusOf(sort)))
}

// fieldBy reckons in a field by math/big.
type fieldBy struct {
	sort    int
	modulus *big.Int
}

func fieldOf(sort int) fieldBy { return fieldBy{sort, modulusOf(sort)} }

func (f fieldBy) rest(n *big.Int) *big.Int { return new(big.Int).Mod(n, f.modulus) }

func (f fieldBy) of(e api.Elem) *big.Int { return f.rest(bigOf(e)) }

func (f fieldBy) add(a *big.Int, more ...*big.Int) *big.Int {
	for _, b := range more {
		a = f.rest(new(big.Int).Add(a, b))
	}
	return a
}

func (f fieldBy) sub(a, b *big.Int) *big.Int { return f.rest(new(big.Int).Sub(a, b)) }

func (f fieldBy) mul(a *big.Int, more ...*big.Int) *big.Int {
	for _, b := range more {
		a = f.rest(new(big.Int).Mul(a, b))
	}
	return a
}

func (f fieldBy) by(a, b *big.Int) *big.Int {
	return f.mul(a, new(big.Int).ModInverse(b, f.modulus))
}

func (f fieldBy) power(a *big.Int, e *big.Int) *big.Int { return new(big.Int).Exp(a, e, f.modulus) }

// roots: 5^((modulus - 1) / 2^k), by sort and size, once they are worked out.
var roots = map[[2]int]*big.Int{}

// point: the point of a row: the power of the root.
func (f fieldBy) point(k, row int) *big.Int {
	of := [2]int{f.sort, k}
	if roots[of] == nil {
		e := new(big.Int).Sub(f.modulus, big.NewInt(1))
		roots[of] = f.power(big.NewInt(5), e.Rsh(e, uint(k)))
	}
	return f.power(roots[of], big.NewInt(int64(row)))
}

// stream gives the same numbers at every run.
type stream uint64

func (s *stream) word() uint64 {
	*s += 0x9e3779b97f4a7c15
	z := uint64(*s)
	z = (z ^ z>>30) * 0xbf58476d1ce4e5b9
	z = (z ^ z>>27) * 0x94d049bb133111eb
	return z ^ z>>31
}

func (s *stream) below(n int) int { return int(s.word() % uint64(n)) }

// elem: an element of a field, in one of several numbers that stand for it.
func (s *stream) elem(sort int) api.Elem {
	switch s.below(6) {
	case 0:
		return beside(sort, s.below(5)-2, 1+s.below(3))
	case 1:
		return greatest
	case 2:
		return api.Elem{uint64(s.below(300))}
	}
	return s.wide()
}

// wide: any number of 256 bits.
func (s *stream) wide() api.Elem { return api.Elem{s.word(), s.word(), s.word(), s.word()} }

func (s *stream) elems(sort, n int) []api.Elem {
	list := make([]api.Elem, n)
	for i := range list {
		list[i] = s.elem(sort)
	}
	return list
}

// sizes: all sorts, with all sizes of an argument.
func sizes(look func(sort, k int)) {
	for sort := range 4 {
		for k := 3; k <= 5; k++ {
			look(sort, k)
		}
	}
}

func sameLists(a, b [][]api.Elem) bool { return slices.EqualFunc(a, b, slices.Equal[[]api.Elem]) }

func clonedLists(lists [][]api.Elem) [][]api.Elem {
	var out [][]api.Elem
	for _, values := range lists {
		out = append(out, slices.Clone(values))
	}
	return out
}

// liftedList: other numbers that stand for the same elements.
func liftedList(sort int, list []api.Elem) []api.Elem {
	var out []api.Elem
	for _, v := range list {
		out = append(out, lifted(sort, v))
	}
	return out
}

// elemsOf: small numbers as elements.
func elemsOf(list ...int) []api.Elem {
	var out []api.Elem
	for _, v := range list {
		out = append(out, api.Elem{uint64(v)})
	}
	return out
}

// left: the coins that are left, which are taken by that.
func left(c *tape.Coins) []api.Elem {
	var list []api.Elem
	for {
		v, e := c.Next()
		if e != api.OK {
			return list
		}
		list = append(list, v)
	}
}
