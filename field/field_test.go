package field

import (
	"math"
	"math/big"
	"testing"

	"sigil/api"
)

var greatest = api.Elem{math.MaxUint64, math.MaxUint64, math.MaxUint64, math.MaxUint64}

// wrongSorts: numbers that are no field's.
var wrongSorts = []int{-1, 4, -2, 5, 256, -4, math.MinInt, math.MaxInt, 1 << 32, -1 << 32}

// texts: the moduli as the document has them, not as the program.
var texts = []string{
	"16513537",
	"16521217",
	"0x40000000000000000000000000000000224698fc094cf91b992d30ed00000001",
	"0x40000000000000000000000000000000224698fc0994a8dd8c46eb2100000001",
}

func modulusOf(sort int) *big.Int {
	n, ok := new(big.Int).SetString(texts[sort], 0)
	if !ok {
		panic(texts[sort])
	}
	return n
}

// bigOf: the number as math/big has it, for answers worked out another way.
func bigOf(e api.Elem) *big.Int {
	n := new(big.Int)
	for i := len(e) - 1; i >= 0; i-- {
		n.Lsh(n, 64).Or(n, new(big.Int).SetUint64(e[i]))
	}
	return n
}

// elemOf: a number from 0 to 2^256 - 1.
func elemOf(n *big.Int) api.Elem {
	if n.Sign() < 0 || n.BitLen() > 256 {
		panic(n.String())
	}
	var e api.Elem
	for i := range e {
		e[i] = new(big.Int).And(new(big.Int).Rsh(n, uint(64*i)), bigOf(api.Elem{math.MaxUint64})).Uint64()
	}
	return e
}

func shifted(n *big.Int, by int64) api.Elem { return elemOf(new(big.Int).Add(n, big.NewInt(by))) }

func mod(sort int, n *big.Int) api.Elem { return elemOf(new(big.Int).Mod(n, modulusOf(sort))) }

// edges: small numbers, those around the modulus, its half and its multiples, those around powers of 2, and the greatest.
func edges(sort int) []api.Elem {
	m := modulusOf(sort)
	var list []api.Elem
	for by := range int64(4) {
		list = append(list, api.Elem{uint64(by)}, shifted(m, by), shifted(m, -by))
		list = append(list, shifted(new(big.Int).Rsh(m, 1), by), shifted(new(big.Int).Mul(m, big.NewInt(2)), by-1))
	}
	for _, n := range []uint{23, 24, 25, 32, 63, 64, 126, 127, 128, 192, 253, 254, 255} {
		p := new(big.Int).Lsh(big.NewInt(1), n)
		list = append(list, shifted(p, -1), shifted(p, 0), shifted(p, 1))
	}
	return append(list, greatest, api.Elem{0, 0, 0, math.MaxUint64}, api.Elem{math.MaxUint64, 0, math.MaxUint64})
}

// stream gives the same numbers at every run.
type stream uint64

func (s *stream) word() uint64 {
	*s += 0x9e3779b97f4a7c15
	z := uint64(*s)
	z = (z ^ z>>30) * 0xbf58476d1ce4e5b9
	z = (z ^ z>>27) * 0x94d049bb133111eb
	return z ^ z>>31
}

func (s *stream) elem() api.Elem {
	e := api.Elem{s.word(), s.word(), s.word(), s.word()}
	switch s.word() % 4 {
	case 0: // an element of a great field as it stands
		e[3] >>= 2
	case 1: // one of a little field
		e = api.Elem{e[0] % 16513537}
	}
	return e
}

func eachSort(look func(sort int, m *big.Int)) {
	for sort := range 4 {
		look(sort, modulusOf(sort))
	}
}

// pairs: of all sorts, each two edges and many drawn numbers.
func pairs(look func(sort int, m *big.Int, a, b api.Elem)) {
	eachSort(func(sort int, m *big.Int) {
		for _, a := range edges(sort) {
			for _, b := range edges(sort) {
				look(sort, m, a, b)
			}
		}
		s := stream(sort)
		for range 20000 {
			look(sort, m, s.elem(), s.elem())
		}
	})
}

// P2.1

func TestModulus(t *testing.T) {
	eachSort(func(sort int, m *big.Int) {
		if got, e := Modulus(sort); got != elemOf(m) || e != api.OK {
			t.Errorf("Modulus(%d): %v %d", sort, got, e)
		}
		if !m.ProbablyPrime(20) || big.Jacobi(big.NewInt(5), m) != -1 {
			t.Errorf("%v is no prime, or 5 a square", m)
		}
	})
	for _, sort := range wrongSorts {
		if got, e := Modulus(sort); got != (api.Elem{}) || e != api.ErrSort {
			t.Errorf("Modulus(%d): %v %d", sort, got, e)
		}
	}
}

func TestAdicity(t *testing.T) {
	table := []int{9, 11, 32, 32}
	eachSort(func(sort int, m *big.Int) {
		twos := int(new(big.Int).Sub(m, big.NewInt(1)).TrailingZeroBits())
		if got, e := Adicity(sort); got != table[sort] || got != twos || e != api.OK {
			t.Errorf("Adicity(%d): %d %d", sort, got, e)
		}
	})
	for _, sort := range wrongSorts {
		if got, e := Adicity(sort); got != 0 || e != api.ErrSort {
			t.Errorf("Adicity(%d): %d %d", sort, got, e)
		}
	}
}

func TestWrongSorts(t *testing.T) {
	for _, sort := range wrongSorts {
		for _, a := range []api.Elem{{}, {1}, {7, 0, 9}, greatest} {
			if Add(sort, a, a) != (api.Elem{}) || Sub(sort, a, api.Elem{3}) != (api.Elem{}) || Neg(sort, a) != (api.Elem{}) || Mul(sort, a, a) != (api.Elem{}) || Exp(sort, a, api.Elem{}) != (api.Elem{}) || Exp(sort, a, a) != (api.Elem{}) {
				t.Errorf("a sum, a product or a power of the sort %d isn't 0", sort)
			}
			if b := Encode(sort, a); len(b) != 0 {
				t.Errorf("Encode(%d, %v): %v", sort, a, b)
			}
		}
		for _, n := range []int{0, 1, -1, math.MinInt, math.MaxInt} {
			if got := Int(sort, n); got != (api.Elem{}) {
				t.Errorf("Int(%d, %d): %v", sort, n, got)
			}
		}
	}
}

// A wrong sort goes ahead of all other errors.
func TestWrongSortsGoFirst(t *testing.T) {
	look := func(sort int, name string, got api.Elem, e api.Errno) {
		if got != (api.Elem{}) || e != api.ErrSort {
			t.Errorf("%s of the sort %d: %v %d", name, sort, got, e)
		}
	}
	for _, sort := range wrongSorts {
		for _, a := range []api.Elem{{}, {1}, {4}, {5}, greatest} {
			inv, e := Inv(sort, a)
			look(sort, "Inv", inv, e)
			root, e := Sqrt(sort, a)
			look(sort, "Sqrt", root, e)
			list, e := Invert(sort, []api.Elem{{1}, a})
			if len(list) != 0 || e != api.ErrSort {
				t.Errorf("Invert of the sort %d: %v %d", sort, list, e)
			}
		}
		if list, e := Invert(sort, nil); len(list) != 0 || e != api.ErrSort {
			t.Errorf("Invert of the sort %d: %v %d", sort, list, e)
		}
		for _, k := range []int{-1, 0, 1, 9, 33, math.MinInt, math.MaxInt} {
			root, e := Root(sort, k)
			look(sort, "Root", root, e)
		}
		for _, n := range []int{0, 31, 32, 33, 63, 64, 65} {
			got, e := Decode(sort, make([]byte, n))
			look(sort, "Decode", got, e)
			got, e = Wide(sort, make([]byte, n))
			look(sort, "Wide", got, e)
		}
	}
}

// P2.2

func TestSums(t *testing.T) {
	pairs(func(sort int, m *big.Int, a, b api.Elem) {
		if got, want := Add(sort, a, b), mod(sort, new(big.Int).Add(bigOf(a), bigOf(b))); got != want {
			t.Errorf("Add(%d, %v, %v): %v, not %v", sort, a, b, got, want)
		}
		if got, want := Sub(sort, a, b), mod(sort, new(big.Int).Sub(bigOf(a), bigOf(b))); got != want {
			t.Errorf("Sub(%d, %v, %v): %v, not %v", sort, a, b, got, want)
		}
		if got, want := Neg(sort, a), mod(sort, new(big.Int).Neg(bigOf(a))); got != want {
			t.Errorf("Neg(%d, %v): %v, not %v", sort, a, got, want)
		}
	})
	if got := Add(0, api.Elem{16513536}, api.Elem{2}); got != (api.Elem{1}) {
		t.Errorf("the example: %v", got)
	}
}

func TestMul(t *testing.T) {
	pairs(func(sort int, m *big.Int, a, b api.Elem) {
		if got, want := Mul(sort, a, b), mod(sort, new(big.Int).Mul(bigOf(a), bigOf(b))); got != want {
			t.Errorf("Mul(%d, %v, %v): %v, not %v", sort, a, b, got, want)
		}
	})
}

// Products just above and below multiples of the modulus are those at which a remainder is off by one of it.
func TestMulNearMultiples(t *testing.T) {
	eachSort(func(sort int, m *big.Int) {
		s := stream(10 + sort)
		for range 2000 {
			a := mod(sort, bigOf(s.elem()))
			inv := new(big.Int).ModInverse(bigOf(a), m)
			if inv == nil {
				continue
			}
			for want := range int64(3) {
				for _, w := range []*big.Int{big.NewInt(want), big.NewInt(-want)} {
					b := mod(sort, new(big.Int).Mul(inv, w))
					if got := Mul(sort, a, b); got != mod(sort, w) {
						t.Errorf("Mul(%d, %v, %v): %v, not %v", sort, a, b, got, w)
					}
				}
			}
		}
	})
}

func TestExp(t *testing.T) {
	eachSort(func(sort int, m *big.Int) {
		s := stream(20 + sort)
		look := func(a, e api.Elem) {
			if got, want := Exp(sort, a, e), elemOf(new(big.Int).Exp(bigOf(a), bigOf(e), m)); got != want {
				t.Errorf("Exp(%d, %v, %v): %v, not %v", sort, a, e, got, want)
			}
		}
		for _, a := range edges(sort) {
			for _, e := range edges(sort) {
				look(a, e)
			}
			if got := Exp(sort, a, api.Elem{}); got != (api.Elem{1}) {
				t.Errorf("%v to the power 0: %v", a, got)
			}
			// Were e's remainder taken, this would be a to the power 0.
			if got := Exp(sort, a, elemOf(m)); got != mod(sort, bigOf(a)) {
				t.Errorf("%v to the power of the modulus: %v", a, got)
			}
		}
		for range 500 {
			look(s.elem(), s.elem())
		}
	})
}

func TestInt(t *testing.T) {
	eachSort(func(sort int, m *big.Int) {
		s := stream(30 + sort)
		list := []int{0, 1, -1, 2, -2, math.MinInt, math.MinInt + 1, math.MaxInt, math.MaxInt - 1, 16513536, 16513537, 16513538, -16513537, 16521216, 16521217, 16521218, -16521217, 1 << 32, -1 << 32}
		for range 2000 {
			list = append(list, int(s.word()))
		}
		for _, n := range list {
			if got, want := Int(sort, n), mod(sort, big.NewInt(int64(n))); got != want {
				t.Errorf("Int(%d, %d): %v, not %v", sort, n, got, want)
			}
		}
		if got := Int(sort, -1); got != shifted(m, -1) {
			t.Errorf("Int(%d, -1): %v", sort, got)
		}
	})
	if got := Int(1, -1); got != (api.Elem{16521216}) {
		t.Errorf("the example: %v", got)
	}
}
