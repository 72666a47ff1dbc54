package ipa

import (
	"math"
	"math/big"
	"slices"
	"testing"

	"sigil/api"
	"sigil/curve"
	"sigil/params"
	"sigil/tape"
)

var greatest = api.Elem{math.MaxUint64, math.MaxUint64, math.MaxUint64, math.MaxUint64}

// wrongCurves: numbers that are no curve's.
var wrongCurves = []int{-1, 4, -2, 5, 6, 7, 8, 256, -4, math.MinInt, math.MaxInt, 1 << 32, -1 << 32}

// wrongSizes: numbers that are no K.
var wrongSizes = []int{-1, 6, 7, 62, 63, 64, 256, math.MinInt, math.MaxInt, 1 << 32, 1<<32 + 2}

var infinity = api.Point{Inf: true}

// orderOf: the modulus of a curve's scalars, as the document says it.
func orderOf(c int) *big.Int {
	n, ok := new(big.Int).SetString([]string{
		"16521217",
		"16513537",
		"0x40000000000000000000000000000000224698fc0994a8dd8c46eb2100000001",
		"0x40000000000000000000000000000000224698fc094cf91b992d30ed00000001",
	}[c], 0)
	if !ok {
		panic(c)
	}
	return n
}

// bigOf: the number as math/big has it, for answers worked out another way.
func bigOf(e api.Elem) *big.Int {
	n := new(big.Int)
	for i := len(e) - 1; i >= 0; i-- {
		n.Lsh(n, 64).Or(n, new(big.Int).SetUint64(e[i]))
	}
	return n
}

// elemOf: a number from 0 to 2^256 - 1.
func elemOf(n *big.Int) api.Elem {
	if n.Sign() < 0 || n.BitLen() > 256 {
		panic(n.String())
	}
	var e api.Elem
	for i := range e {
		e[i] = new(big.Int).And(new(big.Int).Rsh(n, uint(64*i)), bigOf(api.Elem{math.MaxUint64})).Uint64()
	}
	return e
}

func shifted(n *big.Int, by int64) api.Elem { return elemOf(new(big.Int).Add(n, big.NewInt(by))) }

// zeros: numbers that stand for 0 among the curve's scalars.
func zeros(c int) []api.Elem {
	return []api.Elem{{}, elemOf(orderOf(c)), elemOf(new(big.Int).Lsh(orderOf(c), 1))}
}

// stream gives the same numbers at every run.
type stream uint64

func (s *stream) word() uint64 {
	*s += 0x9e3779b97f4a7c15
	z := uint64(*s)
	z = (z ^ z>>30) * 0xbf58476d1ce4e5b9
	z = (z ^ z>>27) * 0x94d049bb133111eb
	return z ^ z>>31
}

func (s *stream) elem() api.Elem { return api.Elem{s.word(), s.word(), s.word(), s.word()} }

func (s *stream) elems(n int) []api.Elem {
	list := make([]api.Elem, n)
	for i := range list {
		list[i] = s.elem()
	}
	return list
}

// scalarsBy reckons with a curve's scalars by math/big.
type scalarsBy struct{ order *big.Int }

func (f scalarsBy) of(e api.Elem) *big.Int { return f.rest(bigOf(e)) }

func (f scalarsBy) rest(n *big.Int) *big.Int { return new(big.Int).Mod(n, f.order) }

func (f scalarsBy) list(es []api.Elem) []*big.Int {
	var out []*big.Int
	for _, e := range es {
		out = append(out, f.of(e))
	}
	return out
}

func (f scalarsBy) add(a, b *big.Int) *big.Int { return f.rest(new(big.Int).Add(a, b)) }

func (f scalarsBy) mul(a *big.Int, more ...*big.Int) *big.Int {
	for _, b := range more {
		a = f.rest(new(big.Int).Mul(a, b))
	}
	return a
}

func (f scalarsBy) neg(a *big.Int) *big.Int { return f.rest(new(big.Int).Neg(a)) }

func (f scalarsBy) inv(a *big.Int) *big.Int { return new(big.Int).ModInverse(a, f.order) }

func (f scalarsBy) inner(a, b []*big.Int) *big.Int {
	sum := new(big.Int)
	for i := range a {
		sum = f.add(sum, f.mul(a[i], b[i]))
	}
	return sum
}

// fold: low and k times high.
func (f scalarsBy) fold(list []*big.Int, k *big.Int) []*big.Int {
	var out []*big.Int
	for i := range len(list) / 2 {
		out = append(out, f.add(list[i], f.mul(k, list[len(list)/2+i])))
	}
	return out
}

func (f scalarsBy) powers(x *big.Int, n int) []*big.Int {
	var out []*big.Int
	for i := range n {
		out = append(out, new(big.Int).Exp(x, big.NewInt(int64(i)), f.order))
	}
	return out
}

// valueAt: a polynomial's value.
func (f scalarsBy) valueAt(coeffs []*big.Int, x *big.Int) *big.Int {
	return f.inner(coeffs, f.powers(x, len(coeffs)))
}

// pointsBy: the sum of points, so often each, by curve.Mul and curve.Add.
func pointsBy(c int, ks []*big.Int, points ...api.Point) api.Point {
	sum := infinity
	for i, k := range ks {
		sum = curve.Add(c, sum, curve.Mul(c, elemOf(k), points[i]))
	}
	return sum
}

// made: parameters that Setup doesn't refuse.
func made(t *testing.T, c, k int) api.Params {
	t.Helper()
	p, e := params.Setup(c, k, []byte("seed"))
	if e != api.OK {
		t.Fatalf("Setup(%d, %d): %d", c, k, e)
	}
	return p
}

func writerOf(t *testing.T, c int, src api.Source) *tape.Writer {
	t.Helper()
	w, e := tape.Write(c, src)
	if e != api.OK {
		t.Fatalf("Write(%d): %d", c, e)
	}
	return w
}

func readerOf(t *testing.T, c int, src api.Source, proof []byte) *tape.Reader {
	t.Helper()
	r, e := tape.Read(c, src, proof)
	if e != api.OK {
		t.Fatalf("Read(%d): %d", c, e)
	}
	return r
}

// taped: challenges from a tape.
func taped(list ...api.Elem) api.Source { return api.Source{Mode: api.FromTape, Tape: list} }

// opening is what Open is asked for, and how challenges come.
type opening struct {
	params   api.Params
	src      api.Source
	coins    []api.Elem
	coeffs   []api.Elem
	blind, x api.Elem
}

// coinsFor: how many coins an opening takes.
func coinsFor(k int) int { return 1<<k + 1 + 2*k }

// drawn: an opening of drawn numbers, with a tape that is just long enough.
func drawn(t *testing.T, c, k int, s *stream) opening {
	t.Helper()
	return opening{params: made(t, c, k), src: taped(s.elems(2 + k)...), coins: s.elems(coinsFor(k)), coeffs: s.elems(1 << k), blind: s.elem(), x: s.elem()}
}

// said: what Open says of it.
func (o opening) said(t *testing.T) []byte {
	t.Helper()
	w := writerOf(t, o.params.Curve, o.src)
	if e := Open(o.params, w, tape.Purse(o.coins), o.coeffs, o.blind, o.x); e != api.OK {
		t.Fatalf("Open on %d of the size %d: %d", o.params.Curve, o.params.K, e)
	}
	return w.Bytes()
}

// refused: does Open answer that error?
func (o opening) refused(t *testing.T, want api.Errno) {
	t.Helper()
	w := writerOf(t, o.params.Curve, o.src)
	if e := Open(o.params, w, tape.Purse(o.coins), o.coeffs, o.blind, o.x); e != want {
		t.Errorf("Open on %d of the size %d with %d coefficients, %d coins and a tape of %d: %d, not %d", o.params.Curve, o.params.K, len(o.coeffs), len(o.coins), len(o.src.Tape), e, want)
	}
}

// by: its scalars by math/big.
func (o opening) by() scalarsBy { return scalarsBy{orderOf(o.params.Curve)} }

// value: the polynomial's value at x, by math/big.
func (o opening) value() api.Elem {
	return elemOf(o.by().valueAt(o.by().list(o.coeffs), o.by().of(o.x)))
}

// commitment: the polynomial's, as a term.
func (o opening) commitment(t *testing.T) []api.Term {
	t.Helper()
	p, e := params.Commit(o.params, o.coeffs, o.blind)
	if e != api.OK {
		t.Fatalf("Commit: %d", e)
	}
	return []api.Term{{K: api.Elem{1}, P: p}}
}

// edges: openings at numbers that are special, by both sources.
func edges(t *testing.T, c, k int, look func(o opening)) {
	t.Helper()
	s := stream(1000*c + k)
	order := orderOf(c)
	special := append(zeros(c), api.Elem{1}, api.Elem{2}, shifted(order, -1), shifted(order, 1), greatest)
	sources := func(o opening) {
		look(o)
		o.src.Mode = api.FromHash
		look(o)
	}
	for range 3 {
		sources(drawn(t, c, k, &s))
	}
	for _, v := range special {
		o := drawn(t, c, k, &s)
		o.x = v
		sources(o)
		o = drawn(t, c, k, &s)
		o.blind = v
		sources(o)
		o = drawn(t, c, k, &s)
		o.coeffs = slices.Repeat([]api.Elem{v}, 1<<k)
		sources(o)
		o = drawn(t, c, k, &s)
		o.coins = slices.Repeat([]api.Elem{v}, coinsFor(k))
		sources(o)
		// The first challenge may be 0.
		o = drawn(t, c, k, &s)
		o.src.Tape[0] = v
		look(o)
		if !slices.Contains(zeros(c), v) {
			o.src = taped(slices.Repeat([]api.Elem{v}, 2+k)...)
			look(o)
		}
	}
	for n := range 1<<k + 1 {
		o := drawn(t, c, k, &s)
		o.coeffs = o.coeffs[:n]
		look(o)
	}
}

// sizes: the curves and the sizes that tests go through; the great curves take longer.
func sizes(look func(c, k int)) {
	for c := range 4 {
		for k := range api.MaxK + 1 {
			if c < 2 || k < 3 {
				look(c, k)
			}
		}
	}
}
