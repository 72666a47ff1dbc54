package keys

import (
	"slices"
	"testing"

	"sigil/api"
	"sigil/curve"
)

// checked: Check answers that, and so do Encode and Digest; where that is an error, they tell nothing.
func checked(t *testing.T, v api.Vkey, want api.Errno) {
	t.Helper()
	if got := Check(v); got != want {
		t.Errorf("Check(%s): %d, not %d", show(v), got, want)
	}
	if b, got := Encode(v); got != want || (len(b) == 0) != (want != api.OK) {
		t.Errorf("Encode(%s): %d bytes, %d, not %d", show(v), len(b), got, want)
	}
	if d, got := Digest(v); got != want || want != api.OK && d != (api.Elem{}) {
		t.Errorf("Digest(%s): %v, %d, not %d", show(v), d, got, want)
	}
}

// eachKey: right keys of all curves and sizes.
func eachKey(look func(v api.Vkey)) {
	for c := range 4 {
		for k := 3; k <= 5; k++ {
			look(leastKey(c, k))
			look(fullKey(c, k))
			look(greatestKey(c, k))
		}
	}
}

// P15.4

func TestCheck(t *testing.T) {
	eachKey(func(v api.Vkey) { checked(t, v, api.OK) })
}

func TestCheckOfCurves(t *testing.T) {
	for _, wrong := range wrongSorts {
		eachKey(func(v api.Vkey) {
			v.Curve = wrong
			checked(t, v, api.ErrVkey)
		})
	}
	// Another curve's points aren't on the curve; where there are none, any curve will do.
	for c := range 4 {
		for other := range 4 {
			v, none := fullKey(c, 3), leastKey(c, 3)
			v.Curve, none.Curve = other, other
			checked(t, none, api.OK)
			if other != c {
				checked(t, v, api.ErrVkey)
			}
		}
	}
}

func TestCheckOfSizes(t *testing.T) {
	for _, wrong := range wrongSizes {
		eachKey(func(v api.Vkey) {
			v.K = wrong
			checked(t, v, api.ErrVkey)
		})
	}
}

// The circuit's error isn't told.
func TestCheckOfCircuits(t *testing.T) {
	for c := range 4 {
		node, gate, advice, equal := fullKey(c, 3), fullKey(c, 3), fullKey(c, 3), fullKey(c, 3)
		node.Circuit.Nodes[4].A = 4
		gate.Circuit.Gates[2] = 10
		advice.Circuit.Advice = 9
		equal.Circuit.Equal[3] = equal.Circuit.Equal[0]
		none := leastKey(c, 3)
		none.Circuit.Advice = 0
		for _, v := range []api.Vkey{node, gate, advice, equal, none, {Curve: c, K: 3}, {Curve: c}} {
			checked(t, v, api.ErrVkey)
		}
	}
	checked(t, api.Vkey{}, api.ErrVkey)
}

// pointsOf: the points of a key, those of Fixed or those of Sigma.
func pointsOf(v *api.Vkey, sigma bool) *[]api.Point {
	if sigma {
		return &v.Sigma
	}
	return &v.Fixed
}

func TestCheckCountsPoints(t *testing.T) {
	for c := range 4 {
		for n := range 12 {
			for _, sigma := range []bool{false, true} {
				v := fullKey(c, 3)
				points := pointsOf(&v, sigma)
				want := api.ErrVkey
				if n == len(*points) {
					want = api.OK
				}
				*points = slices.Repeat((*points)[:1], n)
				checked(t, v, want)
			}
		}
		// Points of one list don't make up for the other's.
		v := fullKey(c, 3)
		v.Fixed, v.Sigma = v.Sigma, v.Fixed
		checked(t, v, api.ErrVkey)
		v = fullKey(c, 3)
		v.Fixed, v.Sigma = append(v.Fixed, v.Sigma[0]), v.Sigma[1:]
		checked(t, v, api.ErrVkey)
		v = leastKey(c, 3)
		v.Fixed = []api.Point{curve.Infinity()}
		checked(t, v, api.ErrVkey)
		v.Fixed, v.Sigma = nil, v.Fixed
		checked(t, v, api.ErrVkey)
	}
}

func TestCheckOfPoints(t *testing.T) {
	for c := range 4 {
		for _, sigma := range []bool{false, true} {
			for i := range *pointsOf(new(fullKey(c, 4)), sigma) {
				for _, p := range offCurve(c) {
					v := fullKey(c, 4)
					(*pointsOf(&v, sigma))[i] = p
					checked(t, v, api.ErrVkey)
				}
				v := fullKey(c, 4)
				(*pointsOf(&v, sigma))[i] = curve.Infinity()
				checked(t, v, api.OK)
			}
		}
	}
}

// Any keys, right ones and wrong ones, by the document's words.
func TestCheckOfAny(t *testing.T) {
	keys(40, 600, func(v api.Vkey) { checked(t, v, checkBy(v)) })
}
