package curve

import (
	"math"
	"math/big"
	"testing"

	"sigil/api"
)

var greatest = api.Elem{math.MaxUint64, math.MaxUint64, math.MaxUint64, math.MaxUint64}

// wrongCurves: numbers that are no curve's.
var wrongCurves = []int{-1, 4, -2, 5, 6, 7, 8, 256, -4, math.MinInt, math.MaxInt, 1 << 32, -1 << 32}

// table: the curves as the document has them, not as the program: the modulus of each one's field, its b, and how many points it has.
var table = []struct {
	modulus, points string
	b               int64
}{
	{"16513537", "16521217", 23},
	{"16521217", "16513537", 21},
	{"0x40000000000000000000000000000000224698fc094cf91b992d30ed00000001", "0x40000000000000000000000000000000224698fc0994a8dd8c46eb2100000001", 5},
	{"0x40000000000000000000000000000000224698fc0994a8dd8c46eb2100000001", "0x40000000000000000000000000000000224698fc094cf91b992d30ed00000001", 5},
}

var infinity = api.Point{Inf: true}

func read(text string) *big.Int {
	n, ok := new(big.Int).SetString(text, 0)
	if !ok {
		panic(text)
	}
	return n
}

func modulusOf(c int) *big.Int { return read(table[c].modulus) }

func pointsOf(c int) *big.Int { return read(table[c].points) }

// bigOf: the number as math/big has it, for answers worked out another way.
func bigOf(e api.Elem) *big.Int {
	n := new(big.Int)
	for i := len(e) - 1; i >= 0; i-- {
		n.Lsh(n, 64).Or(n, new(big.Int).SetUint64(e[i]))
	}
	return n
}

// elemOf: a number from 0 to 2^256 - 1.
func elemOf(n *big.Int) api.Elem {
	if n.Sign() < 0 || n.BitLen() > 256 {
		panic(n.String())
	}
	var e api.Elem
	for i := range e {
		e[i] = new(big.Int).And(new(big.Int).Rsh(n, uint(64*i)), bigOf(api.Elem{math.MaxUint64})).Uint64()
	}
	return e
}

func shifted(n *big.Int, by int64) api.Elem { return elemOf(new(big.Int).Add(n, big.NewInt(by))) }

// stream gives the same numbers at every run.
type stream uint64

func (s *stream) word() uint64 {
	*s += 0x9e3779b97f4a7c15
	z := uint64(*s)
	z = (z ^ z>>30) * 0xbf58476d1ce4e5b9
	z = (z ^ z>>27) * 0x94d049bb133111eb
	return z ^ z>>31
}

func (s *stream) elem() api.Elem { return api.Elem{s.word(), s.word(), s.word(), s.word()} }

func (s *stream) below(m *big.Int) *big.Int { return new(big.Int).Mod(bigOf(s.elem()), m) }

// root: one of the roots of X^3 + b, or nil, by math/big.
func root(c int, x *big.Int) *big.Int {
	m := modulusOf(c)
	n := new(big.Int).Exp(x, big.NewInt(3), m)
	n.Add(n, big.NewInt(table[c].b)).Mod(n, m)
	return n.ModSqrt(n, m)
}

// point: a drawn point of the plane, found by math/big; its Y is even or odd.
func (s *stream) point(c int) api.Point {
	m := modulusOf(c)
	for {
		x := s.below(m)
		y := root(c, x)
		if y == nil {
			continue
		}
		if s.word()%2 == 0 {
			y.Sub(m, y)
		}
		return api.Point{X: elemOf(x), Y: elemOf(y)}
	}
}

// points: some points of a curve: infinity, drawn ones, and the opposite of one.
func points(c, seed int) []api.Point {
	s := stream(seed)
	list := []api.Point{infinity}
	for range 6 {
		list = append(list, s.point(c))
	}
	return append(list, other(c, list[1]))
}

// other: the point with the other Y, by math/big.
func other(c int, p api.Point) api.Point {
	if p.Inf {
		return p
	}
	return api.Point{X: p.X, Y: elemOf(new(big.Int).Sub(modulusOf(c), bigOf(p.Y)))}
}

// sum: the sum of the group by math/big.
func sum(c int, p, q api.Point) api.Point {
	m := modulusOf(c)
	switch {
	case p.Inf:
		return q
	case q.Inf:
		return p
	case p == other(c, q):
		return infinity
	}
	px, py, qx := bigOf(p.X), bigOf(p.Y), bigOf(q.X)
	rise, run := new(big.Int).Sub(bigOf(q.Y), py), new(big.Int).Sub(qx, px)
	if p == q {
		rise.Mul(px, px).Mul(rise, big.NewInt(3))
		run.Lsh(py, 1)
	}
	s := rise.Mul(rise, run.ModInverse(run.Mod(run, m), m))
	x := new(big.Int).Mul(s, s)
	x.Sub(x, px).Sub(x, qx).Mod(x, m)
	y := new(big.Int).Sub(px, x)
	y.Mul(y, s).Sub(y, py).Mod(y, m)
	return api.Point{X: elemOf(x), Y: elemOf(y)}
}

// counted: k times p by sums alone, from the lowest bit on.
func counted(c int, k *big.Int, p api.Point) api.Point {
	all := infinity
	for i := range k.BitLen() {
		if k.Bit(i) == 1 {
			all = sum(c, all, p)
		}
		p = sum(c, p, p)
	}
	return all
}

func isOn(c int, p api.Point) bool {
	m := modulusOf(c)
	x, y := bigOf(p.X), bigOf(p.Y)
	if p.Inf {
		return x.Sign() == 0 && y.Sign() == 0
	}
	if x.Cmp(m) >= 0 || y.Cmp(m) >= 0 {
		return false
	}
	left := y.Mul(y, y)
	right := x.Exp(x, big.NewInt(3), nil)
	return left.Sub(left, right).Sub(left, big.NewInt(table[c].b)).Mod(left, m).Sign() == 0
}

// offCurve: points that aren't on the curve, each of them wrong in another way.
func offCurve(c int) []api.Point {
	m := modulusOf(c)
	s := stream(1000 + c)
	list := []api.Point{
		{},
		{X: api.Elem{1}, Y: api.Elem{1}},
		{Inf: true, X: api.Elem{1}},
		{Inf: true, Y: api.Elem{1}},
		{Inf: true, X: api.Elem{0, 0, 0, 1}},
		{Inf: true, Y: api.Elem{0, 0, 0, 1 << 63}},
		{Inf: true, X: elemOf(m)},
		{Inf: true, Y: elemOf(m)},
		{X: elemOf(m), Y: elemOf(m)},
		{X: greatest, Y: greatest},
		{Inf: true, X: greatest, Y: greatest},
	}
	for range 5 {
		p := s.point(c)
		list = append(list,
			api.Point{X: p.X, Y: p.Y, Inf: true},
			api.Point{X: elemOf(new(big.Int).Add(m, bigOf(p.X))), Y: p.Y},
			api.Point{X: p.X, Y: elemOf(new(big.Int).Add(m, bigOf(p.Y)))},
			api.Point{X: elemOf(new(big.Int).Add(m, bigOf(p.X))), Y: elemOf(new(big.Int).Add(m, bigOf(p.Y)))},
			api.Point{X: p.X},
			api.Point{Y: p.Y},
			api.Point{X: p.Y, Y: p.X},
			api.Point{X: p.X, Y: shifted(bigOf(p.Y), 1)},
			api.Point{X: p.X, Y: shifted(bigOf(p.Y), -1)},
			// The top bit of Y counts too.
			api.Point{X: p.X, Y: api.Elem{p.Y[0], p.Y[1], p.Y[2], p.Y[3] | 1<<63}},
		)
	}
	return list
}

// P4.1

func TestInfinity(t *testing.T) {
	if got := Infinity(); got != infinity {
		t.Errorf("Infinity: %v", got)
	}
	for c := range 4 {
		if !On(c, Infinity()) {
			t.Errorf("Infinity isn't on the curve %d", c)
		}
	}
}

func TestOn(t *testing.T) {
	for c := range 4 {
		for _, p := range points(c, c) {
			if !isOn(c, p) || !On(c, p) {
				t.Errorf("On(%d, %v): false", c, p)
			}
		}
		for _, p := range offCurve(c) {
			if isOn(c, p) || On(c, p) {
				t.Errorf("On(%d, %v): true", c, p)
			}
		}
		for x := range uint64(60) {
			for y := range uint64(60) {
				p := api.Point{X: api.Elem{x}, Y: api.Elem{y}}
				if On(c, p) != isOn(c, p) {
					t.Errorf("On(%d, %v): %v", c, p, On(c, p))
				}
			}
		}
	}
	if !On(2, api.Point{X: shifted(modulusOf(2), -1), Y: api.Elem{2}}) {
		t.Error("the example: (-1, 2) isn't on the curve 2")
	}
}

// A curve's points aren't another one's, though the curves 2 and 3 have one b.
func TestOnOtherCurves(t *testing.T) {
	for c := range 4 {
		for _, p := range points(c, 10+c)[1:] {
			for d := range 4 {
				if On(d, p) != isOn(d, p) || c != d && On(d, p) {
					t.Errorf("On(%d) of a point of %d: %v", d, c, On(d, p))
				}
			}
		}
	}
}

func TestNoneWithNought(t *testing.T) {
	for c := range 4 {
		m := modulusOf(c)
		if root(c, new(big.Int)) != nil {
			t.Errorf("the curve %d has a point with X 0", c)
		}
		if pointsOf(c).Bit(0) == 0 || !pointsOf(c).ProbablyPrime(20) || !m.ProbablyPrime(20) {
			t.Errorf("the curve %d could have a point with Y 0", c)
		}
	}
}

func TestWrongCurves(t *testing.T) {
	for _, c := range wrongCurves {
		for d := range 4 {
			for _, p := range append(points(d, 20+d)[:3], offCurve(d)[:6]...) {
				if On(c, p) {
					t.Errorf("On(%d, %v)", c, p)
				}
				if Neg(c, p) != infinity || Add(c, p, p) != infinity || Add(c, p, infinity) != infinity || Add(c, infinity, p) != infinity || Mul(c, api.Elem{1}, p) != infinity || Mul(c, greatest, p) != infinity || Mul(c, api.Elem{}, p) != infinity {
					t.Errorf("a sum on the curve %d isn't infinity: %v", c, p)
				}
			}
		}
	}
}

// P4.2

func TestPointsOffTheCurve(t *testing.T) {
	for c := range 4 {
		good := points(c, 30+c)[1]
		for _, p := range offCurve(c) {
			if got := Neg(c, p); got != infinity {
				t.Errorf("Neg(%d, %v): %v", c, p, got)
			}
			for _, q := range []api.Point{good, infinity, p} {
				if Add(c, p, q) != infinity || Add(c, q, p) != infinity {
					t.Errorf("Add(%d) of %v and %v isn't infinity", c, p, q)
				}
			}
			for _, k := range []api.Elem{{}, {1}, {2}, {3}, greatest} {
				if got := Mul(c, k, p); got != infinity {
					t.Errorf("Mul(%d, %v, %v): %v", c, k, p, got)
				}
			}
		}
	}
}

func TestNeg(t *testing.T) {
	for c := range 4 {
		for _, p := range points(c, 40+c) {
			got := Neg(c, p)
			if got != other(c, p) || !isOn(c, got) || Neg(c, got) != p {
				t.Errorf("Neg(%d, %v): %v", c, p, got)
			}
		}
		if Neg(c, infinity) != infinity {
			t.Errorf("Neg(%d) of infinity", c)
		}
	}
}

func TestAdd(t *testing.T) {
	for c := range 4 {
		list := points(c, 50+c)
		for _, p := range list {
			for _, q := range list {
				got, want := Add(c, p, q), sum(c, p, q)
				if got != want || !isOn(c, got) {
					t.Errorf("Add(%d, %v, %v): %v, not %v", c, p, q, got, want)
				}
			}
			if Add(c, p, infinity) != p || Add(c, infinity, p) != p {
				t.Errorf("infinity counts at %v on %d", p, c)
			}
			if Add(c, p, other(c, p)) != infinity || Add(c, other(c, p), p) != infinity {
				t.Errorf("%v and its Neg on %d don't make infinity", p, c)
			}
			if got, want := Add(c, p, p), sum(c, p, p); got != want || !isOn(c, got) {
				t.Errorf("twice %v on %d: %v, not %v", p, c, got, want)
			}
		}
	}
}

// A sum doesn't hang on how its points are put together.
func TestAddIsAGroup(t *testing.T) {
	for c := range 4 {
		list := points(c, 60+c)
		for _, p := range list {
			for _, q := range list {
				for _, r := range list {
					if Add(c, Add(c, p, q), r) != Add(c, p, Add(c, q, r)) {
						t.Errorf("on %d: %v, %v, %v", c, p, q, r)
					}
				}
				if Add(c, p, q) != Add(c, q, p) {
					t.Errorf("on %d: %v, %v", c, p, q)
				}
			}
		}
	}
}

// Three points share each Y, their X's by a third root of 1: those have the slope 0, and together they are infinity.
func TestAddWithOneY(t *testing.T) {
	for c := range 4 {
		m := modulusOf(c)
		third := new(big.Int).Div(new(big.Int).Sub(m, big.NewInt(1)), big.NewInt(3))
		unity := new(big.Int).Exp(big.NewInt(5), third, m)
		p := points(c, 70+c)[1]
		q := api.Point{X: elemOf(new(big.Int).Mod(new(big.Int).Mul(bigOf(p.X), unity), m)), Y: p.Y}
		if unity.Cmp(big.NewInt(1)) == 0 || p == q || !On(c, q) {
			t.Fatalf("no second point of one Y on %d", c)
		}
		for _, q := range []api.Point{q, other(c, q)} {
			if got, want := Add(c, p, q), sum(c, p, q); got != want || !isOn(c, got) {
				t.Errorf("Add(%d, %v, %v): %v, not %v", c, p, q, got, want)
			}
		}
		r := api.Point{X: elemOf(new(big.Int).Mod(new(big.Int).Mul(bigOf(q.X), unity), m)), Y: p.Y}
		if Add(c, p, q) != other(c, r) || Add(c, Add(c, p, q), r) != infinity {
			t.Errorf("on %d: three points of one line", c)
		}
	}
}

func TestMul(t *testing.T) {
	for c := range 4 {
		n := pointsOf(c)
		s := stream(80 + c)
		scalars := []api.Elem{{}, {1}, {2}, {3}, {4}, {5}, {7}, {8}, {15}, {16}, {255}, {256}, {math.MaxUint64}, {0, 1}, {0, 0, 1}, {0, 0, 0, 1}, {0, 0, 0, 1 << 63}, greatest}
		for by := range int64(4) {
			scalars = append(scalars, shifted(n, by), shifted(n, -by))
			scalars = append(scalars, shifted(new(big.Int).Lsh(n, 1), by-2), shifted(new(big.Int).Rsh(n, 1), by-1))
			scalars = append(scalars, shifted(modulusOf(c), by-2))
		}
		for range 10 {
			scalars = append(scalars, s.elem(), elemOf(s.below(n)))
		}
		for _, p := range []api.Point{s.point(c), s.point(c), infinity} {
			for _, k := range scalars {
				got, want := Mul(c, k, p), counted(c, bigOf(k), p)
				if got != want || !isOn(c, got) {
					t.Errorf("Mul(%d, %v, %v): %v, not %v", c, k, p, got, want)
				}
			}
		}
	}
}

func TestMulByTheOrder(t *testing.T) {
	for c := range 4 {
		n := pointsOf(c)
		for _, p := range points(c, 90+c) {
			if Mul(c, api.Elem{}, p) != infinity || Mul(c, elemOf(n), p) != infinity || Mul(c, shifted(new(big.Int).Lsh(n, 1), 0), p) != infinity {
				t.Errorf("0 times, or so often as the curve %d has points, %v isn't infinity", c, p)
			}
			if Mul(c, api.Elem{1}, p) != p || Mul(c, shifted(n, 1), p) != p {
				t.Errorf("once %v on %d: %v", p, c, Mul(c, api.Elem{1}, p))
			}
			if got := Mul(c, shifted(n, -1), p); got != other(c, p) {
				t.Errorf("%v so often as %d has points but once: %v", p, c, got)
			}
			// The field's modulus isn't the order of the curve over it.
			if got := Mul(c, elemOf(modulusOf(c)), p); !p.Inf && got == infinity {
				t.Errorf("%v as often on %d as its field's modulus is infinity", p, c)
			}
		}
	}
	s := stream(99)
	for range 200 {
		if p := s.point(0); Mul(0, api.Elem{16521217}, p) != infinity {
			t.Errorf("the example: %v", p)
		}
	}
}

// Mul goes along with sums: of scalars, and of points.
func TestMulGoesAlong(t *testing.T) {
	for c := range 4 {
		s := stream(100 + c)
		n := pointsOf(c)
		for range 20 {
			p, q := s.point(c), s.point(c)
			a, b := s.elem(), s.elem()
			both := elemOf(new(big.Int).Mod(new(big.Int).Add(bigOf(a), bigOf(b)), n))
			if Mul(c, both, p) != Add(c, Mul(c, a, p), Mul(c, b, p)) {
				t.Errorf("on %d: %v and %v times %v", c, a, b, p)
			}
			if Mul(c, a, Add(c, p, q)) != Add(c, Mul(c, a, p), Mul(c, a, q)) {
				t.Errorf("on %d: %v times %v and %v", c, a, p, q)
			}
		}
		p, all := s.point(c), infinity
		for i := range 300 {
			if got := Mul(c, api.Elem{uint64(i)}, p); got != all {
				t.Errorf("on %d: %d times %v: %v, not %v", c, i, p, got, all)
			}
			all = Add(c, all, p)
		}
	}
}

// P4.4

func TestPointsAreLeftAlone(t *testing.T) {
	for c := range 4 {
		list := append(points(c, 110+c), offCurve(c)...)
		before := append([]api.Point(nil), list...)
		k := api.Elem{1, 2, 3, 4}
		for i := range list {
			first := []api.Point{Neg(c, list[i]), Add(c, list[i], list[0]), Mul(c, k, list[i])}
			Add(c, list[i], list[1])
			On(c, list[i])
			Encode(c, list[i])
			again := []api.Point{Neg(c, list[i]), Add(c, list[i], list[0]), Mul(c, k, list[i])}
			for j := range first {
				if first[j] != again[j] {
					t.Errorf("on %d: %v answers another point the second time", c, list[i])
				}
			}
		}
		for i := range list {
			if list[i] != before[i] {
				t.Errorf("%v was changed", before[i])
			}
		}
		if k != (api.Elem{1, 2, 3, 4}) {
			t.Errorf("the scalar was changed: %v", k)
		}
	}
}
