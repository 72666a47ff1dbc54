package params

import (
	"bytes"
	"slices"
	"testing"

	"sigil/api"
)

// P9.5

// roomy: a list with more behind its length in its memory, and all that memory.
func roomy[T any](list []T, more ...T) ([]T, []T) {
	whole := slices.Concat(list, more)
	return whole[:len(list)], whole
}

// What lies behind the seed stays, where the index could have been put.
func TestSeedIsLeftAlone(t *testing.T) {
	for c := range 4 {
		for _, text := range []string{"", "s", "seed"} {
			seed, whole := roomy([]byte(text), bytes.Repeat([]byte{77}, 40)...)
			kept := bytes.Clone(whole)
			want, _ := derivedBy(c, 0x01020304, []byte(text))
			derives(t, c, 0x01020304, seed, want)
			p, e := Setup(c, 3, seed)
			if e != api.OK || !same(p, made(t, c, 3, text)) {
				t.Errorf("Setup(%d) of %q: %v %d", c, text, p, e)
			}
			if !bytes.Equal(whole, kept) {
				t.Errorf("on %d: the memory of the seed %q has changed: %v", c, text, whole)
			}
			before := copied(p)
			for i := range whole {
				whole[i] = 255
			}
			if !same(p, before) {
				t.Errorf("on %d: the parameters hang on the seed's memory", c)
			}
		}
	}
}

func TestParamsAreNewMemory(t *testing.T) {
	for c := range 4 {
		for k := range api.MaxK + 1 {
			first, second := made(t, c, k, "seed"), made(t, c, k, "seed")
			want := copied(second)
			all := first.G[:cap(first.G)]
			for i := range all {
				all[i] = infinity
			}
			if !same(second, want) || !same(made(t, c, k, "seed"), want) {
				t.Errorf("two answers of Setup(%d, %d) share memory", c, k)
			}
		}
	}
}

// The memory of G ends with it: nothing of W or U lies behind.
func TestGeneratorsAreCutOff(t *testing.T) {
	for c := range 4 {
		for k := range api.MaxK + 1 {
			p := made(t, c, k, "seed")
			if len(p.G) != 1<<k || cap(p.G) != 1<<k {
				t.Errorf("Setup(%d, %d): %d points in the room of %d", c, k, len(p.G), cap(p.G))
			}
		}
	}
}

func TestListsAreLeftAlone(t *testing.T) {
	for c := range 4 {
		for k := range api.MaxK + 1 {
			p := made(t, c, k, "seed")
			points, allPoints := roomy(p.G, p.U, p.W, api.Point{}, infinity)
			s := stream(500 + c)
			coeffs, allCoeffs := roomy(s.elems(1<<k), s.elems(9)...)
			keptPoints, keptCoeffs := slices.Clone(allPoints), slices.Clone(allCoeffs)
			p.G = points
			checked(t, p, api.OK)
			commits(t, p, coeffs, greatest, oneByOne(p, coeffs, greatest))
			uncommitted(t, p, allCoeffs, api.ErrLength)
			if !slices.Equal(allPoints, keptPoints) || !slices.Equal(allCoeffs, keptCoeffs) {
				t.Errorf("on %d: points or coefficients have changed", c)
			}
			// Nor where they are refused.
			p.W = infinity
			checked(t, p, api.ErrParams)
			uncommitted(t, p, coeffs, api.ErrParams)
			if !slices.Equal(allPoints, keptPoints) || !slices.Equal(allCoeffs, keptCoeffs) {
				t.Errorf("on %d: refused points or coefficients have changed", c)
			}
		}
	}
}
