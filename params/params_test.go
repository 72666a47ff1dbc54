package params

import (
	"math"
	"math/big"
	"slices"
	"testing"

	"sigil/api"
	"sigil/curve"
)

// wrongSizes: numbers that are no K.
var wrongSizes = []int{-1, 6, 7, 8, 62, 63, 64, 65, 256, -2, -5, math.MinInt, math.MaxInt, 1 << 32, -1 << 32, 1<<32 + 2}

// made: parameters that Setup doesn't refuse.
func made(t *testing.T, c, k int, seed string) api.Params {
	t.Helper()
	p, e := Setup(c, k, []byte(seed))
	if e != api.OK {
		t.Fatalf("Setup(%d, %d, %q): %d", c, k, seed, e)
	}
	return p
}

// same: are these parameters the same, point by point?
func same(p, q api.Params) bool {
	return p.Curve == q.Curve && p.K == q.K && slices.Equal(p.G, q.G) && p.W == q.W && p.U == q.U
}

// copied: the same parameters in other memory.
func copied(p api.Params) api.Params {
	p.G = slices.Clone(p.G)
	return p
}

// offCurve: points that aren't on the curve, each of them wrong in another way.
func offCurve(c int) []api.Point {
	p, _ := derivedBy(c, 77, nil)
	twin, _ := derivedBy(c^1, 77, nil)
	far, _ := derivedBy(c^2, 77, nil)
	m := modulusOf(c)
	return []api.Point{
		{},
		{X: p.X},
		{Y: p.Y},
		{X: p.Y, Y: p.X},
		{X: p.X, Y: shifted(bigOf(p.Y), 1)},
		{X: shifted(bigOf(p.X), 1), Y: p.Y},
		{X: elemOf(new(big.Int).Add(bigOf(p.X), m)), Y: p.Y},
		{X: p.X, Y: elemOf(new(big.Int).Add(bigOf(p.Y), m))},
		{X: p.X, Y: p.Y, Inf: true},
		{Inf: true, X: api.Elem{1}},
		{Inf: true, Y: api.Elem{1}},
		{X: greatest, Y: greatest},
		twin,
		far,
	}
}

// P9.2

func TestSetup(t *testing.T) {
	for c := range 4 {
		for k := range api.MaxK + 1 {
			for _, seed := range []string{"", "seed", "another one"} {
				p := made(t, c, k, seed)
				n := 1 << k
				if p.Curve != c || p.K != k || len(p.G) != n || Check(p) != api.OK {
					t.Fatalf("Setup(%d, %d, %q): %v", c, k, seed, p)
				}
				for i, g := range append(slices.Clone(p.G), p.W, p.U) {
					if want, _ := derivedBy(c, i, []byte(seed)); g != want {
						t.Errorf("Setup(%d, %d, %q): the point %d is %v, not %v", c, k, seed, i, g, want)
					}
				}
				if !same(p, made(t, c, k, seed)) {
					t.Errorf("Setup(%d, %d, %q) answers another time otherwise", c, k, seed)
				}
			}
		}
	}
}

func TestSetupOfNoSeed(t *testing.T) {
	for c := range 4 {
		p, e := Setup(c, 1, nil)
		if e != api.OK || !same(p, made(t, c, 1, "")) {
			t.Errorf("Setup(%d, 1, nil): %v %d", c, p, e)
		}
	}
}

func TestSetupErrors(t *testing.T) {
	refused := func(c, k int, want api.Errno) {
		t.Helper()
		for _, seed := range [][]byte{nil, []byte("seed")} {
			if p, e := Setup(c, k, seed); !same(p, api.Params{}) || e != want {
				t.Errorf("Setup(%d, %d, %v): %v %d, not the error %d", c, k, seed, p, e, want)
			}
		}
	}
	for _, c := range wrongCurves {
		// A wrong curve goes ahead of a wrong size.
		for _, k := range append([]int{0, 1, 5}, wrongSizes...) {
			refused(c, k, api.ErrCurve)
		}
	}
	for c := range 4 {
		for _, k := range wrongSizes {
			refused(c, k, api.ErrSize)
		}
	}
}

// P9.3

func checked(t *testing.T, p api.Params, want api.Errno) {
	t.Helper()
	if e := Check(p); e != want {
		t.Errorf("Check of the curve %d, K %d and %d points: %d, not %d", p.Curve, p.K, len(p.G), e, want)
	}
}

// Any points but infinity are right: of another seed, with an odd Y, or one of them over and over.
func TestCheckOfOtherPoints(t *testing.T) {
	for c := range 4 {
		for k := range api.MaxK + 1 {
			p := made(t, c, k, "seed")
			odd := copied(p)
			for i, g := range odd.G {
				odd.G[i] = curve.Neg(c, g)
			}
			odd.W, odd.U = curve.Neg(c, p.W), p.W
			checked(t, odd, api.OK)
			checked(t, api.Params{Curve: c, K: k, G: slices.Repeat([]api.Point{p.U}, 1<<k), W: p.U, U: p.U}, api.OK)
		}
	}
}

func TestCheckCurveAndSize(t *testing.T) {
	for c := range 4 {
		p := made(t, c, 2, "seed")
		for _, points := range [][]api.Point{p.G, p.G[:1], nil, {infinity}} {
			for _, wrong := range wrongCurves {
				for _, k := range append([]int{0, 2, 5}, wrongSizes...) {
					checked(t, api.Params{Curve: wrong, K: k, G: points, W: p.W, U: p.U}, api.ErrCurve)
					checked(t, api.Params{Curve: wrong, K: k, G: points}, api.ErrCurve)
				}
			}
			for _, k := range wrongSizes {
				checked(t, api.Params{Curve: c, K: k, G: points, W: p.W, U: p.U}, api.ErrSize)
				checked(t, api.Params{Curve: c, K: k, G: points}, api.ErrSize)
			}
		}
	}
}

func TestCheckLengths(t *testing.T) {
	for c := range 4 {
		all := made(t, c, 5, "seed")
		points := slices.Concat(all.G, all.G, []api.Point{all.W})
		for k := range api.MaxK + 1 {
			for n := range len(points) + 1 {
				want := api.ErrParams
				if n == 1<<k {
					want = api.OK
				}
				checked(t, api.Params{Curve: c, K: k, G: points[:n], W: all.W, U: all.U}, want)
			}
		}
	}
	checked(t, api.Params{}, api.ErrParams)
}

// A wrong point is found at each place.
func TestCheckPoints(t *testing.T) {
	for c := range 4 {
		for k := range api.MaxK + 1 {
			right := made(t, c, k, "seed")
			for _, q := range append(offCurve(c), infinity) {
				for i := range right.G {
					p := copied(right)
					p.G[i] = q
					checked(t, p, api.ErrParams)
				}
				p := right
				p.W = q
				checked(t, p, api.ErrParams)
				p = right
				p.U = q
				checked(t, p, api.ErrParams)
			}
			for d := range 4 {
				p := right
				p.Curve = d
				if d != c {
					checked(t, p, api.ErrParams)
				}
			}
			checked(t, right, api.OK)
		}
	}
}
