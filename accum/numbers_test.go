package accum

import (
	"math"
	"math/big"

	"sigil/api"
)

var greatest = api.Elem{math.MaxUint64, math.MaxUint64, math.MaxUint64, math.MaxUint64}

// orderOf: the modulus of a curve's scalars, as the document says it.
func orderOf(c int) *big.Int {
	n, ok := new(big.Int).SetString([]string{
		"16521217",
		"16513537",
		"0x40000000000000000000000000000000224698fc0994a8dd8c46eb2100000001",
		"0x40000000000000000000000000000000224698fc094cf91b992d30ed00000001",
	}[c], 0)
	if !ok {
		panic(c)
	}
	return n
}

// bigOf: the number as math/big has it, for answers worked out another way.
func bigOf(e api.Elem) *big.Int {
	n := new(big.Int)
	for i := len(e) - 1; i >= 0; i-- {
		n.Lsh(n, 64).Or(n, new(big.Int).SetUint64(e[i]))
	}
	return n
}

// elemOf: a number from 0 to 2^256 - 1.
func elemOf(n *big.Int) api.Elem {
	if n.Sign() < 0 || n.BitLen() > 256 {
		panic(n.String())
	}
	var e api.Elem
	for i := range e {
		e[i] = new(big.Int).And(new(big.Int).Rsh(n, uint(64*i)), bigOf(api.Elem{math.MaxUint64})).Uint64()
	}
	return e
}

// less: the scalar that is 0 less so many.
func less(c int, n int64) api.Elem {
	return elemOf(new(big.Int).Sub(orderOf(c), big.NewInt(n)))
}

// root: a scalar whose least power that is 1 is the 2^k-th.
func root(c, k int) api.Elem {
	order := orderOf(c)
	half := new(big.Int).Rsh(order, 1)
	for i := int64(2); ; i++ {
		// What isn't a square has all of the powers of 2 in its order.
		if new(big.Int).Exp(big.NewInt(i), half, order).Cmp(big.NewInt(1)) != 0 {
			return elemOf(new(big.Int).Exp(big.NewInt(i), new(big.Int).Rsh(order, uint(k)), order))
		}
	}
}

// stream gives the same numbers at every run.
type stream uint64

func (s *stream) word() uint64 {
	*s += 0x9e3779b97f4a7c15
	z := uint64(*s)
	z = (z ^ z>>30) * 0xbf58476d1ce4e5b9
	z = (z ^ z>>27) * 0x94d049bb133111eb
	return z ^ z>>31
}

// below: a number from 0 to n - 1.
func (s *stream) below(n int) int { return int(s.word() % uint64(n)) }

func (s *stream) elem() api.Elem { return api.Elem{s.word(), s.word(), s.word(), s.word()} }

func (s *stream) elems(n int) []api.Elem {
	list := make([]api.Elem, n)
	for i := range list {
		list[i] = s.elem()
	}
	return list
}
