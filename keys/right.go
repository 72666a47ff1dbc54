package keys

import (
	"sigil/api"
	"sigil/circuit"
	"sigil/curve"
)

// leastSize is the least K of a key.
const leastSize = 3

// isRight: is the key right?
func isRight(v api.Vkey) bool {
	// Infinity is on each curve that there is.
	return curve.On(v.Curve, curve.Infinity()) &&
		v.K >= leastSize && v.K <= api.MaxK &&
		circuit.Check(v.Circuit) == api.OK &&
		areSoMany(v.Curve, v.Fixed, v.Circuit.Fixed) &&
		areSoMany(v.Curve, v.Sigma, len(v.Circuit.Equal))
}

// areSoMany: are there so many points, and all of them on the curve?
func areSoMany(c int, points []api.Point, count int) bool {
	if len(points) != count {
		return false
	}
	for _, p := range points {
		if !curve.On(c, p) {
			return false
		}
	}
	return true
}
