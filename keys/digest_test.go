package keys

import (
	"testing"

	"sigil/api"
	"sigil/curve"
)

// digested: Digest answers what it does by the document's words.
func digested(t *testing.T, v api.Vkey) api.Elem {
	t.Helper()
	got, e := Digest(v)
	want, wrong := digestBy(v)
	if got != want || e != wrong {
		t.Errorf("Digest(%s): %v, %d, not %v, %d", show(v), got, e, want, wrong)
	}
	return got
}

// P15.6

func TestDigest(t *testing.T) {
	eachKey(func(v api.Vkey) { digested(t, v) })
}

// A digest hangs on what is told of a key, and on nothing else.
func TestDigestOfOthers(t *testing.T) {
	for c := range 4 {
		v := fullKey(c, 3)
		want := digested(t, v)
		if got := digested(t, plainBy(v)); got != want {
			t.Errorf("of the plain key: %v, not %v", got, want)
		}
		for i, change := range []func(v *api.Vkey){
			func(v *api.Vkey) { v.K = 4 },
			func(v *api.Vkey) { v.Circuit.Advice++ },
			func(v *api.Vkey) { v.Circuit.Instance++ },
			func(v *api.Vkey) { v.Circuit.Nodes[7].V[0]++ },
			func(v *api.Vkey) { v.Circuit.Nodes[1].B++ },
			func(v *api.Vkey) { v.Circuit.Gates = nil },
			func(v *api.Vkey) { v.Circuit.Lookups = v.Circuit.Lookups[1:] },
			func(v *api.Vkey) { v.Circuit.Equal[3].Col = 1 },
			func(v *api.Vkey) { v.Fixed[1] = curve.Neg(c, v.Fixed[1]) },
			func(v *api.Vkey) { v.Sigma[0], v.Sigma[1] = v.Sigma[1], v.Sigma[0] },
		} {
			other := fullKey(c, 3)
			change(&other)
			if digested(t, other) == want {
				t.Errorf("the change %d isn't to be seen", i)
			}
		}
	}
	// Where a key has no points, its curve is told all the same.
	met := map[api.Elem]int{}
	for c := range 4 {
		met[digested(t, leastKey(c, 3))]++
	}
	if len(met) != 4 {
		t.Errorf("%v", met)
	}
}

// Any keys, right ones and wrong ones, by the document's words.
func TestDigestOfAny(t *testing.T) {
	keys(60, 300, func(v api.Vkey) { digested(t, v) })
}
