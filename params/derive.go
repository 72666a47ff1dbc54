package params

import (
	"math"
	"slices"

	"sigil/api"
	"sigil/blake"
	"sigil/curve"
	"sigil/field"
)

const (
	person      = "sigil-generators"
	digestBytes = 64
	indexBytes  = 4
	maxIndex    = math.MaxInt32
	tries       = 256
)

// Derive: a generator.
func Derive(curve, index int, seed []byte) (api.Point, api.Errno) {
	if !isCurve(curve) {
		return api.Point{}, api.ErrCurve
	}
	if index < 0 || index > maxIndex {
		return api.Point{}, api.ErrSize
	}
	m := message(index, seed)
	return firstOf(func(try byte) (api.Point, bool) {
		m[len(m)-1] = try
		return pointOf(curve, m)
	})
}

// isCurve: is there such a curve?
func isCurve(c int) bool {
	return curve.On(c, curve.Infinity())
}

// message: the seed and the bytes of the index, with room for the try's byte behind them.
func message(index int, seed []byte) []byte {
	var tail [indexBytes + 1]byte
	for i := range indexBytes {
		tail[i] = byte(index >> (8 * i))
	}
	return slices.Concat(seed, tail[:])
}

// firstOf: the point of the first try that gives one.
func firstOf(give func(try byte) (api.Point, bool)) (api.Point, api.Errno) {
	for try := range tries {
		if p, ok := give(byte(try)); ok {
			return p, api.OK
		}
	}
	return api.Point{}, api.ErrParams
}

// pointOf: the point with the even Y whose X the digest of a message gives, if there is one.
func pointOf(c int, m []byte) (api.Point, bool) {
	// A person of 16 bytes and a digest of 64 aren't refused, nor is such a digest by Wide.
	digest, _ := blake.Sum(person, digestBytes, m)
	x, _ := field.Wide(c, digest)
	// The bytes of 0 are those of infinity.
	if x == (api.Elem{}) {
		return api.Point{}, false
	}
	// An X's bytes alone, without the mark of an odd Y, are those of the point with the even one.
	p, wrong := curve.Decode(c, field.Encode(c, x))
	return p, wrong == api.OK
}
