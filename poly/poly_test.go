package poly

import (
	"math"
	"math/big"
	"slices"
	"testing"

	"sigil/api"
)

var greatest = api.Elem{math.MaxUint64, math.MaxUint64, math.MaxUint64, math.MaxUint64}

// wrongSorts: numbers that are no field's.
var wrongSorts = []int{-1, 4, -2, 5, 6, 7, 8, 256, -4, math.MinInt, math.MaxInt, 1 << 32, -1 << 32}

// moduli: each field's modulus, as the document says it.
var moduli = []string{
	"16513537",
	"16521217",
	"0x40000000000000000000000000000000224698fc094cf91b992d30ed00000001",
	"0x40000000000000000000000000000000224698fc0994a8dd8c46eb2100000001",
}

func modulusOf(sort int) *big.Int {
	n, ok := new(big.Int).SetString(moduli[sort], 0)
	if !ok {
		panic(moduli[sort])
	}
	return n
}

// bigOf: the number as math/big has it, for answers worked out another way.
func bigOf(e api.Elem) *big.Int {
	n := new(big.Int)
	for i := len(e) - 1; i >= 0; i-- {
		n.Lsh(n, 64).Or(n, new(big.Int).SetUint64(e[i]))
	}
	return n
}

// elemOf: a number from 0 to 2^256 - 1.
func elemOf(n *big.Int) api.Elem {
	if n.Sign() < 0 || n.BitLen() > 256 {
		panic(n.String())
	}
	var e api.Elem
	for i := range e {
		e[i] = new(big.Int).And(new(big.Int).Rsh(n, uint(64*i)), bigOf(api.Elem{math.MaxUint64})).Uint64()
	}
	return e
}

// mod: the remainder, by math/big.
func mod(sort int, n *big.Int) api.Elem { return elemOf(new(big.Int).Mod(n, modulusOf(sort))) }

// multiple: so many times the modulus, and a little more or less.
func multiple(sort int, times, by int64) api.Elem {
	n := new(big.Int).Mul(modulusOf(sort), big.NewInt(times))
	return elemOf(n.Add(n, big.NewInt(by)))
}

// noughts: 0 as it stands, and numbers that stand for it.
func noughts(sort int) []api.Elem {
	return []api.Elem{{}, multiple(sort, 1, 0), multiple(sort, 2, 0), multiple(sort, 3, 0)}
}

// ints: elements of small numbers, below 0 too.
func ints(sort int, numbers ...int64) []api.Elem {
	list := make([]api.Elem, len(numbers))
	for i, n := range numbers {
		list[i] = mod(sort, big.NewInt(n))
	}
	return list
}

// stream gives the same numbers at every run.
type stream uint64

func (s *stream) word() uint64 {
	*s += 0x9e3779b97f4a7c15
	z := uint64(*s)
	z = (z ^ z>>30) * 0xbf58476d1ce4e5b9
	z = (z ^ z>>27) * 0x94d049bb133111eb
	return z ^ z>>31
}

// elem: any number of 256 bits, nearly always one not below the modulus.
func (s *stream) elem() api.Elem { return api.Elem{s.word(), s.word(), s.word(), s.word()} }

func (s *stream) elems(n int) []api.Elem {
	list := make([]api.Elem, n)
	for i := range list {
		list[i] = s.elem()
	}
	return list
}

// trimmed: the remainders by math/big, up to the last that isn't 0.
func trimmed(sort int, a []api.Elem) []api.Elem {
	out := []api.Elem{}
	for i, c := range a {
		if e := mod(sort, bigOf(c)); e != (api.Elem{}) {
			out = append(append(out, make([]api.Elem, i-len(out))...), e)
		}
	}
	return out
}

// sumOf: a and b, coefficient by coefficient, by math/big.
func sumOf(sort int, a, b []api.Elem) []api.Elem {
	sum := make([]api.Elem, max(len(a), len(b)))
	for i := range sum {
		n := new(big.Int)
		if i < len(a) {
			n.Add(n, bigOf(a[i]))
		}
		if i < len(b) {
			n.Add(n, bigOf(b[i]))
		}
		sum[i] = mod(sort, n)
	}
	return trimmed(sort, sum)
}

// productOf: a times b, each coefficient by each, by math/big.
func productOf(sort int, a, b []api.Elem) []api.Elem {
	sums := make([]*big.Int, len(a)+len(b))
	for i := range sums {
		sums[i] = new(big.Int)
	}
	factors := make([]*big.Int, len(b))
	for j, d := range b {
		factors[j] = bigOf(mod(sort, bigOf(d)))
	}
	for i, c := range a {
		factor := bigOf(mod(sort, bigOf(c)))
		for j := range factors {
			sums[i+j].Add(sums[i+j], new(big.Int).Mul(factor, factors[j]))
		}
	}
	out := make([]api.Elem, len(sums))
	for i, n := range sums {
		out[i] = mod(sort, n)
	}
	return trimmed(sort, out)
}

// valueAt: a polynomial's value, power by power, by math/big.
func valueAt(sort int, a []api.Elem, x api.Elem) api.Elem {
	m, sum, power := modulusOf(sort), new(big.Int), big.NewInt(1)
	for _, c := range a {
		sum.Add(sum, new(big.Int).Mul(bigOf(c), power))
		power.Mul(power, bigOf(x)).Mod(power, m)
	}
	return mod(sort, sum)
}

// polynomials: of all kinds: none, zeros, numbers alone, zeros at the end, between and at the beginning, numbers about
// the modulus, any numbers.
func polynomials(sort int) [][]api.Elem {
	s := stream(1000 + sort)
	list := [][]api.Elem{
		nil, {}, {{}}, {{}, {}, {}}, noughts(sort),
		{{1}}, {{2}}, {greatest}, {multiple(sort, 1, 1)}, {multiple(sort, 1, -1)},
		{{1}, {1}}, {{}, {1}}, {{}, {}, {7}}, {{5}, {}, {}, {3}},
		{{4}, {}}, {{4}, {9}, {}, {}}, {{}, {3}, multiple(sort, 1, 0)}, append([]api.Elem{{6}}, noughts(sort)...),
		{multiple(sort, 2, 3), multiple(sort, 1, -5), multiple(sort, 3, 0), multiple(sort, 3, 2)},
	}
	for _, n := range []int{2, 3, 5, 8, 17, 40} {
		list = append(list, s.elems(n))
	}
	return append(list, append(s.elems(12), noughts(sort)...))
}

// pairs: all sorts, with all pairs of their polynomials.
func pairs(f func(sort int, a, b []api.Elem)) {
	for sort := range 4 {
		list := polynomials(sort)
		for _, a := range list {
			for _, b := range list {
				f(sort, a, b)
			}
		}
	}
}

// numbers: what polynomials are taken at, and multiplied by.
func numbers(sort int) []api.Elem {
	s := stream(1100 + sort)
	list := []api.Elem{{1}, {2}, {5}, multiple(sort, 1, -1), multiple(sort, 1, 1), multiple(sort, 2, 9), greatest, s.elem()}
	return append(list, noughts(sort)...)
}

// P7.1

func TestWrongSorts(t *testing.T) {
	long := slices.Repeat([]api.Elem{{1}}, 1025)
	lists := [][]api.Elem{nil, {}, {{}}, {{1}}, {{1}, {1}}, {greatest, {3}, {}}, {{16513537}}, make([]api.Elem, 65), long}
	for _, sort := range wrongSorts {
		for _, a := range lists {
			for _, x := range []api.Elem{{}, {1}, {16513537}, greatest} {
				if got := Scale(sort, a, x); len(got) != 0 {
					t.Errorf("Scale(%d) of %d by %v: %v", sort, len(a), x, got)
				}
				if got := Eval(sort, a, x); got != (api.Elem{}) {
					t.Errorf("Eval(%d) of %d at %v: %v", sort, len(a), x, got)
				}
			}
			if got := Trim(sort, a); len(got) != 0 {
				t.Errorf("Trim(%d) of %d: %v", sort, len(a), got)
			}
			if got, e := Zeros(sort, a); len(got) != 0 || e != api.ErrSort {
				t.Errorf("Zeros(%d) of %d: %v %d", sort, len(a), got, e)
			}
			for _, b := range lists {
				refusedPair(t, sort, a, b)
			}
		}
	}
}

func refusedPair(t *testing.T, sort int, a, b []api.Elem) {
	t.Helper()
	if got := Add(sort, a, b); len(got) != 0 {
		t.Errorf("Add(%d) of %d and %d: %v", sort, len(a), len(b), got)
	}
	if got, e := Mul(sort, a, b); len(got) != 0 || e != api.ErrSort {
		t.Errorf("Mul(%d) of %d and %d: %v %d", sort, len(a), len(b), got, e)
	}
	if q, r, e := Divide(sort, a, b); len(q) != 0 || len(r) != 0 || e != api.ErrSort {
		t.Errorf("Divide(%d) of %d by %d: %v %v %d", sort, len(a), len(b), q, r, e)
	}
	if got, e := Through(sort, a, b); len(got) != 0 || e != api.ErrSort {
		t.Errorf("Through(%d) of %d and %d: %v %d", sort, len(a), len(b), got, e)
	}
}

// P7.2

func TestTrim(t *testing.T) {
	for sort := range 4 {
		m, above := multiple(sort, 1, 0), multiple(sort, 1, 4)
		tests := []struct{ a, want []api.Elem }{
			{nil, nil},
			{[]api.Elem{}, nil},
			{[]api.Elem{{}}, nil},
			{make([]api.Elem, 2000), nil},
			{noughts(sort), nil},
			{[]api.Elem{m}, nil},
			{[]api.Elem{{3}, {}, {}}, []api.Elem{{3}}},
			{[]api.Elem{{3}, m, {}}, []api.Elem{{3}}},
			{[]api.Elem{{3}, {}, m}, []api.Elem{{3}}},
			{[]api.Elem{{}, m, {2}}, []api.Elem{{}, {}, {2}}},
			{[]api.Elem{m, above, m, above}, []api.Elem{{}, {4}, {}, {4}}},
			{[]api.Elem{above}, []api.Elem{{4}}},
			{[]api.Elem{multiple(sort, 1, -1), {}}, []api.Elem{multiple(sort, 1, -1)}},
			{[]api.Elem{multiple(sort, 2, -1), multiple(sort, 3, 1)}, []api.Elem{multiple(sort, 1, -1), {1}}},
		}
		for _, test := range tests {
			if got := Trim(sort, test.a); !slices.Equal(got, test.want) {
				t.Errorf("Trim(%d, %v): %v, not %v", sort, test.a, got, test.want)
			}
		}
		for _, a := range polynomials(sort) {
			if got, want := Trim(sort, a), trimmed(sort, a); !slices.Equal(got, want) {
				t.Errorf("Trim(%d, %v): %v, not %v", sort, a, got, want)
			}
		}
	}
}

func TestAdd(t *testing.T) {
	pairs(func(sort int, a, b []api.Elem) {
		if got, want := Add(sort, a, b), sumOf(sort, a, b); !slices.Equal(got, want) {
			t.Errorf("Add(%d, %v, %v): %v, not %v", sort, a, b, got, want)
		}
	})
}

// What the greatest coefficients add up to may be 0, as far down as one likes.
func TestAddOfNegatives(t *testing.T) {
	for sort := range 4 {
		for _, a := range polynomials(sort) {
			less := make([]api.Elem, len(a))
			for i, c := range a {
				less[i] = mod(sort, new(big.Int).Neg(bigOf(c)))
			}
			if got := Add(sort, a, less); len(got) != 0 {
				t.Errorf("Add(%d, %v) and its negative: %v", sort, a, got)
			}
			for n := range less {
				less[n] = mod(sort, new(big.Int).Add(bigOf(less[n]), big.NewInt(1)))
				if got, want := Add(sort, a, less), slices.Repeat([]api.Elem{{1}}, n+1); !slices.Equal(got, want) {
					t.Errorf("Add(%d, %v) and its negative but for %d: %v", sort, a, n+1, got)
				}
			}
		}
		if got := Add(sort, ints(sort, 1, 2, 3), ints(sort, 1, 2, -3)); !slices.Equal(got, ints(sort, 2, 4)) {
			t.Error(sort, got)
		}
	}
}

func TestScale(t *testing.T) {
	for sort := range 4 {
		for _, a := range polynomials(sort) {
			for _, k := range numbers(sort) {
				want := productOf(sort, a, []api.Elem{k})
				if got := Scale(sort, a, k); !slices.Equal(got, want) {
					t.Errorf("Scale(%d, %v, %v): %v, not %v", sort, a, k, got, want)
				}
			}
			if got := Scale(sort, a, api.Elem{1}); !slices.Equal(got, trimmed(sort, a)) {
				t.Errorf("Scale(%d, %v, 1): %v", sort, a, got)
			}
			for _, nought := range noughts(sort) {
				if got := Scale(sort, a, nought); len(got) != 0 {
					t.Errorf("Scale(%d, %v, %v): %v", sort, a, nought, got)
				}
			}
		}
	}
}

func TestEval(t *testing.T) {
	for sort := range 4 {
		s := stream(1200 + sort)
		for _, a := range append(polynomials(sort), s.elems(1500)) {
			for _, x := range numbers(sort) {
				if got, want := Eval(sort, a, x), valueAt(sort, a, x); got != want {
					t.Errorf("Eval(%d, %v, %v): %v, not %v", sort, a, x, got, want)
				}
			}
		}
	}
}

func TestEvalOfNothing(t *testing.T) {
	for sort := range 4 {
		for _, x := range numbers(sort) {
			for _, none := range [][]api.Elem{nil, {}, {{}}, noughts(sort)} {
				if got := Eval(sort, none, x); got != (api.Elem{}) {
					t.Errorf("Eval(%d, %v, %v): %v", sort, none, x, got)
				}
			}
		}
	}
}

func TestEvalAtZero(t *testing.T) {
	for sort := range 4 {
		a := []api.Elem{multiple(sort, 1, 8), {5}, greatest}
		for _, x := range noughts(sort) {
			if got := Eval(sort, a, x); got != (api.Elem{8}) {
				t.Errorf("Eval(%d, %v, %v): %v", sort, a, x, got)
			}
		}
	}
}

// P7.3

func mulOf(t *testing.T, sort int, a, b []api.Elem) []api.Elem {
	t.Helper()
	list, e := Mul(sort, a, b)
	if e != api.OK {
		t.Fatalf("Mul(%d) of %d and %d: %d", sort, len(a), len(b), e)
	}
	return list
}

func TestMul(t *testing.T) {
	pairs(func(sort int, a, b []api.Elem) {
		if got, want := mulOf(t, sort, a, b), productOf(sort, a, b); !slices.Equal(got, want) {
			t.Errorf("Mul(%d, %v, %v): %v, not %v", sort, a, b, got, want)
		}
	})
}

func TestMulExample(t *testing.T) {
	if got := mulOf(t, 0, []api.Elem{{1}, {1}}, []api.Elem{{1}, {1}}); !slices.Equal(got, []api.Elem{{1}, {2}, {1}}) {
		t.Error(got)
	}
}

// shares: how many coefficients a has of so many together.
func shares(together int) []int { return []int{0, 1, 2, 300, together / 2, together - 1, together} }

func TestMulOfMost(t *testing.T) {
	for sort := range 4 {
		s := stream(1300 + sort)
		for _, n := range shares(1024) {
			a, b := s.elems(n), s.elems(1024-n)
			want := productOf(sort, a, b)
			// Zeros at the end don't count.
			for _, zeros := range [][]api.Elem{nil, make([]api.Elem, 900), noughts(sort)} {
				got := mulOf(t, sort, slices.Concat(a, zeros), slices.Concat(b, zeros))
				if !slices.Equal(got, want) {
					t.Errorf("Mul(%d) of %d and %d isn't the product", sort, n, 1024-n)
				}
			}
		}
	}
}

func TestMulOfTooMany(t *testing.T) {
	for sort := range 4 {
		s := stream(1400 + sort)
		for _, together := range []int{1025, 1026, 2048, 5000} {
			for _, n := range shares(together) {
				a, b := s.elems(n), s.elems(together-n)
				for _, zeros := range [][]api.Elem{nil, make([]api.Elem, 3)} {
					got, e := Mul(sort, slices.Concat(a, zeros), slices.Concat(b, zeros))
					if len(got) != 0 || e != api.ErrDegree {
						t.Errorf("Mul(%d) of %d and %d: %d of them, %d", sort, n, together-n, len(got), e)
					}
				}
			}
		}
	}
}

func TestMulByZero(t *testing.T) {
	for sort := range 4 {
		most := slices.Repeat([]api.Elem{{1}}, 1024)
		for _, zero := range [][]api.Elem{nil, {}, {{}}, noughts(sort), make([]api.Elem, 2000)} {
			for _, a := range append(polynomials(sort), most) {
				if got := mulOf(t, sort, a, zero); len(got) != 0 {
					t.Errorf("Mul(%d, %v, %v): %v", sort, a, zero, got)
				}
				if got := mulOf(t, sort, zero, a); len(got) != 0 {
					t.Errorf("Mul(%d, %v, %v): %v", sort, zero, a, got)
				}
			}
		}
	}
}
