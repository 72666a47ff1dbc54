package domain

import (
	"math"
	"math/big"
	"slices"
	"testing"

	"sigil/api"
)

var greatest = api.Elem{math.MaxUint64, math.MaxUint64, math.MaxUint64, math.MaxUint64}

// wrongSorts: numbers that are no field's.
var wrongSorts = []int{-1, 4, -2, 5, 6, 7, 8, 256, -4, math.MinInt, math.MaxInt, 1 << 32, -1 << 32}

// wrongSizes: numbers that are no domain's size.
var wrongSizes = []int{-1, 10, -2, 11, 12, 31, 32, 33, 62, 63, 64, 65, 128, math.MinInt, math.MaxInt, 1 << 32, -1 << 32}

// wrongPlaces: numbers that are no point's place in the domain of the size k.
func wrongPlaces(k int) []int {
	n := 1 << k
	return []int{-1, n, -2, n + 1, 2 * n, -n, -n - 1, math.MinInt, math.MaxInt, 1 << 32, -1 << 32}
}

// moduli: each field's modulus, as the document says it.
var moduli = []string{
	"16513537",
	"16521217",
	"0x40000000000000000000000000000000224698fc094cf91b992d30ed00000001",
	"0x40000000000000000000000000000000224698fc0994a8dd8c46eb2100000001",
}

func modulusOf(sort int) *big.Int {
	n, ok := new(big.Int).SetString(moduli[sort], 0)
	if !ok {
		panic(moduli[sort])
	}
	return n
}

// bigOf: the number as math/big has it, for answers worked out another way.
func bigOf(e api.Elem) *big.Int {
	n := new(big.Int)
	for i := len(e) - 1; i >= 0; i-- {
		n.Lsh(n, 64).Or(n, new(big.Int).SetUint64(e[i]))
	}
	return n
}

// elemOf: a number from 0 to 2^256 - 1.
func elemOf(n *big.Int) api.Elem {
	if n.Sign() < 0 || n.BitLen() > 256 {
		panic(n.String())
	}
	var e api.Elem
	for i := range e {
		e[i] = new(big.Int).And(new(big.Int).Rsh(n, uint(64*i)), bigOf(api.Elem{math.MaxUint64})).Uint64()
	}
	return e
}

// mod: the remainder, by math/big.
func mod(sort int, n *big.Int) api.Elem { return elemOf(new(big.Int).Mod(n, modulusOf(sort))) }

func product(sort int, a, b api.Elem) api.Elem {
	return mod(sort, new(big.Int).Mul(bigOf(a), bigOf(b)))
}

// multiple: so many times the modulus, and a little more or less.
func multiple(sort int, times, by int64) api.Elem {
	n := new(big.Int).Mul(modulusOf(sort), big.NewInt(times))
	return elemOf(n.Add(n, big.NewInt(by)))
}

// noughts: 0 as it stands, and numbers that stand for it.
func noughts(sort int) []api.Elem {
	return []api.Elem{{}, multiple(sort, 1, 0), multiple(sort, 2, 0), multiple(sort, 3, 0)}
}

// stream gives the same numbers at every run.
type stream uint64

func (s *stream) word() uint64 {
	*s += 0x9e3779b97f4a7c15
	z := uint64(*s)
	z = (z ^ z>>30) * 0xbf58476d1ce4e5b9
	z = (z ^ z>>27) * 0x94d049bb133111eb
	return z ^ z>>31
}

// elem: any number of 256 bits, nearly always one not below the modulus.
func (s *stream) elem() api.Elem { return api.Elem{s.word(), s.word(), s.word(), s.word()} }

func (s *stream) elems(n int) []api.Elem {
	list := make([]api.Elem, n)
	for i := range list {
		list[i] = s.elem()
	}
	return list
}

// others: numbers that are points of hardly any domain, below the modulus and above.
func others(sort int) []api.Elem {
	s := stream(700 + sort)
	list := []api.Elem{{2}, {3}, {5}, multiple(sort, 1, -2), multiple(sort, 1, 2), multiple(sort, 2, 7), greatest}
	return append(append(list, noughts(sort)...), s.elems(4)...)
}

func pointsOf(t *testing.T, sort, k int) []api.Elem {
	t.Helper()
	list, e := Points(sort, k)
	if len(list) != 1<<k || e != api.OK {
		t.Fatalf("Points(%d, %d): %d of them, %d", sort, k, len(list), e)
	}
	return list
}

// eachDomain: all sorts, with all sizes.
func eachDomain(f func(sort, k int)) {
	for sort := range 4 {
		for k := range 10 {
			f(sort, k)
		}
	}
}

// P6.1

// refused: do all calls answer this error, whatever else is wrong with what they are given?
func refused(t *testing.T, sort, k int, want api.Errno) {
	t.Helper()
	if list, e := Points(sort, k); len(list) != 0 || e != want {
		t.Errorf("Points(%d, %d): %v %d, not %d", sort, k, list, e, want)
	}
	for _, x := range []api.Elem{{}, {1}, {16513537}, greatest} {
		if v, e := Vanish(sort, k, x); v != (api.Elem{}) || e != want {
			t.Errorf("Vanish(%d, %d, %v): %v %d, not %d", sort, k, x, v, e, want)
		}
		for _, i := range []int{0, 1, -1, math.MaxInt, math.MinInt} {
			if v, e := Lagrange(sort, k, i, x); v != (api.Elem{}) || e != want {
				t.Errorf("Lagrange(%d, %d, %d, %v): %v %d, not %d", sort, k, i, x, v, e, want)
			}
		}
		for _, n := range []int{0, 1, 2, 1025} {
			list := make([]api.Elem, n)
			if got, e := Values(sort, k, x, list); len(got) != 0 || e != want {
				t.Errorf("Values(%d, %d, %v) of %d: %v %d, not %d", sort, k, x, n, got, e, want)
			}
			if got, e := Coeffs(sort, k, x, list); len(got) != 0 || e != want {
				t.Errorf("Coeffs(%d, %d, %v) of %d: %v %d, not %d", sort, k, x, n, got, e, want)
			}
		}
	}
}

func TestWrongSorts(t *testing.T) {
	for _, sort := range wrongSorts {
		for k := range 10 {
			refused(t, sort, k, api.ErrSort)
		}
		for _, k := range wrongSizes {
			refused(t, sort, k, api.ErrSort)
		}
	}
}

func TestWrongSizes(t *testing.T) {
	for sort := range 4 {
		for _, k := range wrongSizes {
			refused(t, sort, k, api.ErrSize)
		}
	}
}

// P6.2

// rootOf: 5 to the power (modulus - 1) / 2^k, by math/big.
func rootOf(sort, k int) *big.Int {
	m := modulusOf(sort)
	e := new(big.Int).Sub(m, big.NewInt(1))
	return new(big.Int).Exp(big.NewInt(5), e.Rsh(e, uint(k)), m)
}

func TestPoints(t *testing.T) {
	eachDomain(func(sort, k int) {
		m, root := modulusOf(sort), rootOf(sort, k)
		for i, p := range pointsOf(t, sort, k) {
			if want := new(big.Int).Exp(root, big.NewInt(int64(i)), m); p != elemOf(want) {
				t.Errorf("Points(%d, %d) at %d: %v, not %v", sort, k, i, p, want)
			}
		}
	})
}

func TestPointsAreAllRootsOfOne(t *testing.T) {
	eachDomain(func(sort, k int) {
		m, met := modulusOf(sort), map[api.Elem]int{}
		for i, p := range pointsOf(t, sort, k) {
			if j, again := met[p]; again {
				t.Errorf("Points(%d, %d): the same at %d and %d", sort, k, j, i)
			}
			met[p] = i
			if power := new(big.Int).Exp(bigOf(p), big.NewInt(1<<k), m); power.Cmp(big.NewInt(1)) != 0 {
				t.Errorf("Points(%d, %d) at %d: %v to the power 2^%d is %v", sort, k, i, p, k, power)
			}
		}
		if met[api.Elem{1}] != 0 || len(met) != 1<<k {
			t.Errorf("Points(%d, %d): %d of them, 1 at %d", sort, k, len(met), met[api.Elem{1}])
		}
	})
}

func TestPointsExample(t *testing.T) {
	if got := pointsOf(t, 0, 1); !slices.Equal(got, []api.Elem{{1}, {16513536}}) {
		t.Error(got)
	}
	for sort := range 4 {
		if got := pointsOf(t, sort, 0); !slices.Equal(got, []api.Elem{{1}}) {
			t.Error(sort, got)
		}
	}
}

// P6.4

func TestLagrangeAtPoints(t *testing.T) {
	eachDomain(func(sort, k int) {
		list := pointsOf(t, sort, k)
		// The greatest domains have too many pairs: of their polynomials some will do, at every point.
		step := max(1, len(list)/16)
		for i := 0; i < len(list); i++ {
			if i%step != 0 && i%step != step-1 {
				continue
			}
			for j, p := range list {
				want := api.Elem{}
				if i == j {
					want = api.Elem{1}
				}
				if got, e := Lagrange(sort, k, i, p); got != want || e != api.OK {
					t.Fatalf("Lagrange(%d, %d, %d) at the point %d: %v %d", sort, k, i, j, got, e)
				}
			}
		}
	})
}

// lagrangeOf: the product of (x - q) / (p - q) over all points q but p itself, by math/big.
func lagrangeOf(sort, i int, list []api.Elem, x api.Elem) api.Elem {
	m, above, below := modulusOf(sort), big.NewInt(1), big.NewInt(1)
	for j, q := range list {
		if j == i {
			continue
		}
		above.Mul(above, new(big.Int).Sub(bigOf(x), bigOf(q))).Mod(above, m)
		below.Mul(below, new(big.Int).Sub(bigOf(list[i]), bigOf(q))).Mod(below, m)
	}
	return mod(sort, above.Mul(above, below.ModInverse(below, m)))
}

func TestLagrangeElsewhere(t *testing.T) {
	eachDomain(func(sort, k int) {
		list := pointsOf(t, sort, k)
		for _, i := range []int{0, 1, len(list) / 2, len(list) - 2, len(list) - 1} {
			if i < 0 || i >= len(list) {
				continue
			}
			for _, x := range others(sort) {
				want := lagrangeOf(sort, i, list, x)
				if got, e := Lagrange(sort, k, i, x); got != want || e != api.OK {
					t.Errorf("Lagrange(%d, %d, %d, %v): %v %d, not %v", sort, k, i, x, got, e, want)
				}
			}
		}
	})
}

// A number not below the modulus stands for its remainder, also where that is a point.
func TestLagrangeAtPointsAndModulus(t *testing.T) {
	eachDomain(func(sort, k int) {
		for i, p := range pointsOf(t, sort, k) {
			x := elemOf(new(big.Int).Add(bigOf(p), modulusOf(sort)))
			if got, e := Lagrange(sort, k, i, x); got != (api.Elem{1}) || e != api.OK {
				t.Errorf("Lagrange(%d, %d, %d, %v): %v %d", sort, k, i, x, got, e)
			}
		}
	})
}

func TestLagrangeWrongPlaces(t *testing.T) {
	eachDomain(func(sort, k int) {
		for _, i := range wrongPlaces(k) {
			for _, x := range []api.Elem{{}, {1}, {7}, greatest} {
				if got, e := Lagrange(sort, k, i, x); got != (api.Elem{}) || e != api.ErrLength {
					t.Errorf("Lagrange(%d, %d, %d, %v): %v %d", sort, k, i, x, got, e)
				}
			}
		}
	})
}

func TestLagrangeExample(t *testing.T) {
	list := pointsOf(t, 0, 2)
	if got, e := Lagrange(0, 2, 3, list[3]); got != (api.Elem{1}) || e != api.OK {
		t.Error(got, e)
	}
	if got, e := Lagrange(0, 2, 3, list[2]); got != (api.Elem{}) || e != api.OK {
		t.Error(got, e)
	}
}

func TestVanishAtPoints(t *testing.T) {
	eachDomain(func(sort, k int) {
		for i, p := range pointsOf(t, sort, k) {
			for _, x := range []api.Elem{p, elemOf(new(big.Int).Add(bigOf(p), modulusOf(sort)))} {
				if got, e := Vanish(sort, k, x); got != (api.Elem{}) || e != api.OK {
					t.Errorf("Vanish(%d, %d) at the point %d, %v: %v %d", sort, k, i, x, got, e)
				}
			}
		}
	})
}

func TestVanishElsewhere(t *testing.T) {
	eachDomain(func(sort, k int) {
		m := modulusOf(sort)
		for _, x := range others(sort) {
			power := new(big.Int).Exp(bigOf(x), big.NewInt(1<<k), m)
			want := mod(sort, power.Sub(power, big.NewInt(1)))
			if got, e := Vanish(sort, k, x); got != want || e != api.OK {
				t.Errorf("Vanish(%d, %d, %v): %v %d, not %v", sort, k, x, got, e, want)
			}
		}
		if got, e := Vanish(sort, k, api.Elem{}); got != multiple(sort, 1, -1) || e != api.OK {
			t.Errorf("Vanish(%d, %d, 0): %v %d", sort, k, got, e)
		}
	})
}

// P6.5

func TestPointsAreNewMemory(t *testing.T) {
	eachDomain(func(sort, k int) {
		first := pointsOf(t, sort, k)
		kept := slices.Clone(first)
		spoil(first)
		if again := pointsOf(t, sort, k); !slices.Equal(again, kept) {
			t.Errorf("Points(%d, %d) once they were written over: %v", sort, k, again)
		}
	})
}

// spoil: writes over a list, and over the spare room behind it.
func spoil(list []api.Elem) {
	for i := range list[:cap(list)] {
		list[:cap(list)][i] = greatest
	}
}
