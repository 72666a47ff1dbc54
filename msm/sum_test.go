package msm

import (
	"math"
	"math/big"
	"slices"
	"testing"

	"sigil/api"
	"sigil/curve"
)

var greatest = api.Elem{math.MaxUint64, math.MaxUint64, math.MaxUint64, math.MaxUint64}

// wrongCurves: numbers that are no curve's.
var wrongCurves = []int{-1, 4, -2, 5, 6, 7, 8, 256, -4, math.MinInt, math.MaxInt, 1 << 32, -1 << 32}

var infinity = api.Point{Inf: true}

// orders: how many points each curve has, as the document says it.
var orders = []string{
	"16521217",
	"16513537",
	"0x40000000000000000000000000000000224698fc0994a8dd8c46eb2100000001",
	"0x40000000000000000000000000000000224698fc094cf91b992d30ed00000001",
}

func orderOf(c int) *big.Int {
	n, ok := new(big.Int).SetString(orders[c], 0)
	if !ok {
		panic(orders[c])
	}
	return n
}

// bigOf: the number as math/big has it, for answers worked out another way.
func bigOf(e api.Elem) *big.Int {
	n := new(big.Int)
	for i := len(e) - 1; i >= 0; i-- {
		n.Lsh(n, 64).Or(n, new(big.Int).SetUint64(e[i]))
	}
	return n
}

// elemOf: a number from 0 to 2^256 - 1.
func elemOf(n *big.Int) api.Elem {
	if n.Sign() < 0 || n.BitLen() > 256 {
		panic(n.String())
	}
	var e api.Elem
	for i := range e {
		e[i] = new(big.Int).And(new(big.Int).Rsh(n, uint(64*i)), bigOf(api.Elem{math.MaxUint64})).Uint64()
	}
	return e
}

func shifted(n *big.Int, by int64) api.Elem { return elemOf(new(big.Int).Add(n, big.NewInt(by))) }

// rest: k modulo the scalars' modulus, by math/big.
func rest(c int, k api.Elem) api.Elem { return elemOf(new(big.Int).Mod(bigOf(k), orderOf(c))) }

// stream gives the same numbers at every run.
type stream uint64

func (s *stream) word() uint64 {
	*s += 0x9e3779b97f4a7c15
	z := uint64(*s)
	z = (z ^ z>>30) * 0xbf58476d1ce4e5b9
	z = (z ^ z>>27) * 0x94d049bb133111eb
	return z ^ z>>31
}

func (s *stream) elem() api.Elem { return api.Elem{s.word(), s.word(), s.word(), s.word()} }

// point: a drawn point of the plane.
func (s *stream) point(c int) api.Point {
	for {
		b := make([]byte, 32)
		for i := range 3 {
			b[i] = byte(s.word())
		}
		b[31] = byte(s.word()) & 0x80
		if p, e := curve.Decode(c, b); e == api.OK && !p.Inf {
			return p
		}
	}
}

func (s *stream) terms(c, n int) []api.Term {
	list := make([]api.Term, n)
	for i := range list {
		list[i] = api.Term{K: s.elem(), P: s.point(c)}
	}
	return list
}

// oneByOne: the sum by curve.Mul and curve.Add.
func oneByOne(c int, terms []api.Term) api.Point {
	sum := curve.Infinity()
	for _, t := range terms {
		sum = curve.Add(c, sum, curve.Mul(c, t.K, t.P))
	}
	return sum
}

func summed(t *testing.T, c int, terms []api.Term, want api.Point) {
	t.Helper()
	if got, e := Sum(c, terms); got != want || e != api.OK {
		t.Errorf("Sum(%d) of %d terms: %v %d, not %v", c, len(terms), got, e, want)
	}
}

func refused(t *testing.T, c int, terms []api.Term, want api.Errno) {
	t.Helper()
	if got, e := Sum(c, terms); got != (api.Point{}) || e != want {
		t.Errorf("Sum(%d) of %d terms: %v %d, not the error %d", c, len(terms), got, e, want)
	}
}

// offCurve: points that aren't on the curve, each of them wrong in another way.
func offCurve(c int) []api.Point {
	s := stream(1000 + c)
	p := s.point(c)
	over := elemOf(new(big.Int).Add(bigOf(p.X), orderOf(c^1)))
	return []api.Point{
		{},
		{X: p.X},
		{X: p.X, Y: shifted(bigOf(p.Y), 1)},
		{X: over, Y: p.Y},
		{X: p.X, Y: p.Y, Inf: true},
		{Inf: true, X: api.Elem{1}},
		{Inf: true, Y: api.Elem{1}},
		{X: greatest, Y: greatest},
		s.point(c ^ 1),
		s.point(c ^ 2),
	}
}

// P5.1

func TestSumOfNone(t *testing.T) {
	for c := range 4 {
		summed(t, c, nil, infinity)
		summed(t, c, []api.Term{}, infinity)
	}
}

// Each number of terms has its own width of digits.
func TestSum(t *testing.T) {
	for c := range 4 {
		s := stream(c)
		all := s.terms(c, 700)
		for _, n := range []int{1, 2, 3, 4, 5, 7, 8, 10, 15, 16, 17, 31, 33, 40, 64, 65, 100, 200, 700} {
			summed(t, c, all[:n], oneByOne(c, all[:n]))
		}
	}
}

// Short scalars have few digits, of which the highest one may be shorter than the others.
func TestSumOfShortScalars(t *testing.T) {
	for c := range 4 {
		s := stream(10 + c)
		for length := range 257 {
			terms := s.terms(c, 1+length%5)
			for i := range terms {
				n := bigOf(terms[i].K)
				n.SetBit(n.Rsh(n, uint(256-length)), max(length-1, 0), 1)
				terms[i].K = elemOf(n)
			}
			summed(t, c, terms, oneByOne(c, terms))
		}
	}
}

// edges: scalars about 0, about the number of points and its multiples, and at the top.
func edges(c int) []api.Elem {
	order := orderOf(c)
	list := []api.Elem{{}, {1}, {2}, {3}, {math.MaxUint64}, {0, 1}, {0, 0, 1}, {0, 0, 0, 1}, {0, 0, 0, 1 << 63}, greatest}
	for _, times := range []int64{1, 2, 3} {
		n := new(big.Int).Mul(order, big.NewInt(times))
		for by := int64(-2); by <= 2; by++ {
			list = append(list, shifted(n, by))
		}
	}
	return list
}

func TestSumOfEdges(t *testing.T) {
	for c := range 4 {
		s := stream(20 + c)
		p := s.point(c)
		var all []api.Term
		for _, k := range edges(c) {
			want := curve.Mul(c, k, p)
			summed(t, c, []api.Term{{K: k, P: p}}, want)
			summed(t, c, []api.Term{{K: k, P: infinity}}, infinity)
			summed(t, c, []api.Term{{K: k, P: infinity}, {K: k, P: p}, {P: p}}, want)
			summed(t, c, []api.Term{{K: k, P: p}, {K: k, P: curve.Neg(c, p)}}, infinity)
			all = append(all, api.Term{K: k, P: p}, api.Term{K: k, P: infinity}, api.Term{K: k, P: s.point(c)})
			summed(t, c, all, oneByOne(c, all))
		}
		summed(t, c, []api.Term{{K: elemOf(orderOf(c)), P: p}}, infinity)
		summed(t, c, []api.Term{{K: shifted(orderOf(c), 1), P: p}}, p)
		summed(t, c, []api.Term{{K: shifted(orderOf(c), -1), P: p}}, curve.Neg(c, p))
	}
}

// One bucket meets the same point, and its opposite, in whatever order.
func TestSumOfTheSamePoint(t *testing.T) {
	for c := range 4 {
		s := stream(30 + c)
		p := s.point(c)
		not := curve.Neg(c, p)
		for _, k := range []api.Elem{{1}, {5}, s.elem(), greatest} {
			for n := range 12 {
				terms := slices.Repeat([]api.Term{{K: k, P: p}}, n)
				summed(t, c, terms, oneByOne(c, terms))
				terms = append(terms, slices.Repeat([]api.Term{{K: k, P: not}}, n)...)
				summed(t, c, terms, infinity)
				terms = append(terms, api.Term{K: k, P: not}, api.Term{K: api.Elem{1}, P: p})
				summed(t, c, terms, oneByOne(c, terms))
			}
		}
		summed(t, c, []api.Term{{K: api.Elem{2}, P: p}, {K: api.Elem{3}, P: p}}, curve.Mul(c, api.Elem{5}, p))
		summed(t, c, []api.Term{{K: api.Elem{7}, P: p}, {K: api.Elem{7}, P: not}, {K: api.Elem{7}, P: p}, {K: api.Elem{7}, P: p}}, curve.Mul(c, api.Elem{14}, p))
		summed(t, c, []api.Term{{K: api.Elem{6}, P: p}, {K: api.Elem{3}, P: curve.Mul(c, api.Elem{2}, not)}}, infinity)
	}
}

func TestSumWrongCurves(t *testing.T) {
	s := stream(40)
	good := s.terms(0, 3)
	for _, c := range wrongCurves {
		for _, terms := range [][]api.Term{nil, good, {{}}, {{K: api.Elem{1}, P: infinity}}, make([]api.Term, api.MaxTerms+1)} {
			refused(t, c, terms, api.ErrCurve)
		}
	}
}

// A point that isn't on the curve is refused wherever it stands, though it counts 0 times.
func TestSumOffTheCurve(t *testing.T) {
	for c := range 4 {
		s := stream(50 + c)
		for _, p := range offCurve(c) {
			for _, k := range []api.Elem{{}, {1}, elemOf(orderOf(c)), s.elem()} {
				for at := range 4 {
					terms := s.terms(c, 4)
					terms[at] = api.Term{K: k, P: p}
					refused(t, c, terms, api.ErrPoint)
				}
				refused(t, c, []api.Term{{K: k, P: p}}, api.ErrPoint)
			}
		}
	}
}

// many: MaxTerms terms of few points, and their sum by the sums of the points' scalars.
func many(c int) ([]api.Term, api.Point) {
	s := stream(60 + c)
	some := s.terms(c, 97)
	counts := make([]*big.Int, len(some))
	for i := range counts {
		counts[i] = new(big.Int)
	}
	terms := make([]api.Term, api.MaxTerms)
	for i := range terms {
		at := i % len(some)
		terms[i] = api.Term{K: s.elem(), P: some[at].P}
		counts[at].Add(counts[at], bigOf(terms[i].K))
	}
	for i, n := range counts {
		some[i].K = elemOf(n.Mod(n, orderOf(c)))
	}
	return terms, oneByOne(c, some)
}

func TestSumOfMany(t *testing.T) {
	for c := range 4 {
		terms, want := many(c)
		summed(t, c, terms, want)
		if c == 0 {
			summed(t, c, terms, oneByOne(c, terms))
		}
		terms = append(terms, api.Term{P: infinity})
		refused(t, c, terms, api.ErrLength)
		// Too many terms are told ahead of points that aren't on the curve.
		refused(t, c, make([]api.Term, api.MaxTerms+1), api.ErrLength)
		refused(t, c, make([]api.Term, api.MaxTerms), api.ErrPoint)
		terms[api.MaxTerms-1].P = api.Point{}
		refused(t, c, terms[:api.MaxTerms], api.ErrPoint)
	}
}

// P5.3

func TestSumLeavesTermsAlone(t *testing.T) {
	for c := range 4 {
		s := stream(70 + c)
		behind := s.terms(c, 20)
		before := slices.Clone(behind)
		for _, n := range []int{0, 1, 7, 20} {
			want := oneByOne(c, before[:n])
			for range 2 {
				summed(t, c, behind[:n], want)
				if !slices.Equal(behind, before) {
					t.Fatalf("Sum(%d) of %d terms has changed them", c, n)
				}
			}
		}
		behind[5].P = api.Point{}
		before = slices.Clone(behind)
		refused(t, c, behind[:10], api.ErrPoint)
		if !slices.Equal(behind, before) {
			t.Errorf("Sum(%d) of wrong terms has changed them", c)
		}
	}
}
