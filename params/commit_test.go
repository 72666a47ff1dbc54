package params

import (
	"math/big"
	"slices"
	"testing"

	"sigil/api"
	"sigil/curve"
)

// oneByOne: a commitment by curve.Mul and curve.Add.
func oneByOne(p api.Params, coeffs []api.Elem, blind api.Elem) api.Point {
	sum := curve.Mul(p.Curve, blind, p.W)
	for i, v := range coeffs {
		sum = curve.Add(p.Curve, sum, curve.Mul(p.Curve, v, p.G[i]))
	}
	return sum
}

func commits(t *testing.T, p api.Params, coeffs []api.Elem, blind api.Elem, want api.Point) {
	t.Helper()
	if got, e := Commit(p, coeffs, blind); got != want || e != api.OK {
		t.Errorf("Commit on %d of %v with %v: %v %d, not %v", p.Curve, coeffs, blind, got, e, want)
	}
}

func uncommitted(t *testing.T, p api.Params, coeffs []api.Elem, want api.Errno) {
	t.Helper()
	for _, blind := range []api.Elem{{}, {1}, greatest} {
		if got, e := Commit(p, coeffs, blind); got != (api.Point{}) || e != want {
			t.Errorf("Commit on %d of %d coefficients: %v %d, not the error %d", p.Curve, len(coeffs), got, e, want)
		}
	}
}

// P9.4

func TestCommitExamples(t *testing.T) {
	for c := range 4 {
		for k := range api.MaxK + 1 {
			p := made(t, c, k, "seed")
			commits(t, p, nil, api.Elem{1}, p.W)
			commits(t, p, []api.Elem{}, api.Elem{1}, p.W)
			commits(t, p, nil, api.Elem{}, infinity)
			commits(t, p, make([]api.Elem, 1<<k), api.Elem{}, infinity)
			for i, g := range p.G {
				coeffs := make([]api.Elem, i+1)
				coeffs[i] = api.Elem{1}
				commits(t, p, coeffs, api.Elem{}, g)
			}
		}
	}
}

// Commitments that were worked out by another program.
func TestCommitOfAnotherProgram(t *testing.T) {
	for c, at := range [][2]string{
		{"0x91f223", "0x3a3081"},
		{"0x876027", "0xc7039c"},
		{"0x8aef3733492b24ff9d6a6de099f0bb95c6204bd06992cf59e22b54b0a921d87", "0xb928cc77e1bc6472078129afad7f7c01c04eb790b2c763179a8464b4d93277"},
		{"0x112cfcb42773b6d3993e9c482cc98d269d7b188248c186e07829a8797d250007", "0x82e0ed0ad2dbd47f84119e358cbd3de46d4e05a7ba6debaff4c8b0960ab7760"},
	} {
		coeffs := []api.Elem{{7}, {}, shifted(orderOf(c), -1), greatest, {5}}
		commits(t, made(t, c, 3, "seed"), coeffs, api.Elem{9, 0, 0, 1 << 63}, pointAt(at[0], at[1]))
	}
}

func TestCommit(t *testing.T) {
	for c := range 4 {
		s := stream(300 + c)
		order := orderOf(c)
		for k := range api.MaxK + 1 {
			p := made(t, c, k, "other")
			for n := range 1<<k + 1 {
				coeffs, blind := s.elems(n), s.elem()
				commits(t, p, coeffs, blind, oneByOne(p, coeffs, blind))
			}
			// Elements stand for their remainders by the scalars' modulus, not by that of the curve's field.
			for _, v := range []api.Elem{elemOf(order), elemOf(new(big.Int).Lsh(order, 1))} {
				commits(t, p, []api.Elem{v}, v, infinity)
				commits(t, p, []api.Elem{shifted(bigOf(v), 1)}, v, p.G[0])
				commits(t, p, []api.Elem{v}, shifted(bigOf(v), -1), curve.Neg(c, p.W))
			}
			commits(t, p, []api.Elem{greatest}, greatest, oneByOne(p, []api.Elem{greatest}, greatest))
		}
	}
}

// U isn't summed up, and coefficients of 0 behind the others make no difference.
func TestCommitLeavesOut(t *testing.T) {
	for c := range 4 {
		s := stream(400 + c)
		p := made(t, c, 3, "seed")
		coeffs, blind := s.elems(5), s.elem()
		want := oneByOne(p, coeffs, blind)
		p.U = p.G[0]
		commits(t, p, coeffs, blind, want)
		commits(t, p, append(slices.Clone(coeffs), make([]api.Elem, 3)...), blind, want)
	}
}

// Parameters that aren't derived are summed up too, where points meet their likes and their opposites.
func TestCommitOfOnePoint(t *testing.T) {
	for c := range 4 {
		g, _ := derivedBy(c, 3, nil)
		p := api.Params{Curve: c, K: 1, G: []api.Point{g, g}, W: g, U: g}
		commits(t, p, []api.Elem{{2}, {3}}, api.Elem{4}, curve.Mul(c, api.Elem{9}, g))
		p.G[1] = curve.Neg(c, g)
		commits(t, p, []api.Elem{{2}, {3}}, api.Elem{1}, infinity)
		commits(t, p, []api.Elem{{2}, {3}}, api.Elem{2}, g)
	}
}

func TestCommitLengths(t *testing.T) {
	for c := range 4 {
		for k := range api.MaxK + 1 {
			p := made(t, c, k, "seed")
			n := 1 << k
			for _, more := range []int{1, 2, n, 1000, 100000} {
				// Zeros count as well.
				uncommitted(t, p, make([]api.Elem, n+more), api.ErrLength)
				uncommitted(t, p, slices.Repeat([]api.Elem{{1}}, n+more), api.ErrLength)
			}
		}
	}
}

// Check's errors go ahead of a wrong length.
func TestCommitWrongParams(t *testing.T) {
	for c := range 4 {
		right := made(t, c, 2, "seed")
		turned := func(turn func(p *api.Params)) api.Params {
			p := copied(right)
			turn(&p)
			return p
		}
		for _, n := range []int{0, 1, 4, 5, 100} {
			coeffs := slices.Repeat([]api.Elem{{1}}, n)
			for _, wrong := range wrongCurves {
				uncommitted(t, turned(func(p *api.Params) { p.Curve, p.K = wrong, 9 }), coeffs, api.ErrCurve)
			}
			for _, k := range wrongSizes {
				uncommitted(t, turned(func(p *api.Params) { p.K, p.G = k, nil }), coeffs, api.ErrSize)
			}
			for _, k := range []int{0, 1, 3, 5} {
				uncommitted(t, turned(func(p *api.Params) { p.K = k }), coeffs, api.ErrParams)
			}
			uncommitted(t, turned(func(p *api.Params) { p.G = nil }), coeffs, api.ErrParams)
			for _, q := range append(offCurve(c), infinity) {
				uncommitted(t, turned(func(p *api.Params) { p.G[0] = q }), coeffs, api.ErrParams)
				uncommitted(t, turned(func(p *api.Params) { p.G[3] = q }), coeffs, api.ErrParams)
				uncommitted(t, turned(func(p *api.Params) { p.W = q }), coeffs, api.ErrParams)
				uncommitted(t, turned(func(p *api.Params) { p.U = q }), coeffs, api.ErrParams)
			}
		}
	}
}
