package field

import (
	"math/big"
	"slices"
	"testing"

	"sigil/api"
)

// P2.3

func TestInv(t *testing.T) {
	eachSort(func(sort int, m *big.Int) {
		s := stream(40 + sort)
		list := edges(sort)
		for range 2000 {
			list = append(list, s.elem())
		}
		for _, a := range list {
			got, e := Inv(sort, a)
			want := new(big.Int).ModInverse(bigOf(a), m)
			if want == nil && (got != (api.Elem{}) || e != api.ErrZero) {
				t.Errorf("Inv(%d, %v): %v %d", sort, a, got, e)
			}
			if want != nil && (got != elemOf(want) || e != api.OK) {
				t.Errorf("Inv(%d, %v): %v %d, not %v", sort, a, got, e, want)
			}
		}
	})
	if got, e := Inv(0, api.Elem{2}); got != (api.Elem{8256769}) || e != api.OK {
		t.Errorf("the example: %v %d", got, e)
	}
}

// noughts: 0 as it stands, and numbers that stand for it.
func noughts(sort int) []api.Elem {
	m := modulusOf(sort)
	return []api.Elem{{}, elemOf(m), elemOf(new(big.Int).Mul(m, big.NewInt(2))), elemOf(new(big.Int).Mul(m, big.NewInt(3)))}
}

func TestInvOfZero(t *testing.T) {
	eachSort(func(sort int, m *big.Int) {
		for _, a := range noughts(sort) {
			if got, e := Inv(sort, a); got != (api.Elem{}) || e != api.ErrZero {
				t.Errorf("Inv(%d, %v): %v %d", sort, a, got, e)
			}
		}
	})
}

// units: numbers of a list that have an inverse.
func units(sort int, list []api.Elem) []api.Elem {
	return slices.DeleteFunc(list, func(a api.Elem) bool { return mod(sort, bigOf(a)) == api.Elem{} })
}

func TestInvert(t *testing.T) {
	eachSort(func(sort int, m *big.Int) {
		all := units(sort, edges(sort))
		for _, n := range []int{0, 1, 2, 3, len(all)} {
			got, e := Invert(sort, all[:n])
			if len(got) != n || e != api.OK {
				t.Fatalf("Invert of %d of the sort %d: %v %d", n, sort, got, e)
			}
			for i, v := range got {
				if want, _ := Inv(sort, all[i]); v != want {
					t.Errorf("Invert(%d) at %d of %d: %v, not %v", sort, i, n, v, want)
				}
			}
		}
		for _, none := range [][]api.Elem{nil, {}} {
			if got, e := Invert(sort, none); len(got) != 0 || e != api.OK {
				t.Errorf("Invert of none of the sort %d: %v %d", sort, got, e)
			}
		}
	})
}

func TestInvertOfZero(t *testing.T) {
	eachSort(func(sort int, m *big.Int) {
		for _, nought := range noughts(sort) {
			for _, list := range [][]api.Elem{{nought}, {nought, {2}}, {{2}, nought}, {{2}, nought, {3}}, {nought, nought}, {greatest, {1}, nought}} {
				if got, e := Invert(sort, list); len(got) != 0 || e != api.ErrZero {
					t.Errorf("Invert(%d, %v): %v %d", sort, list, got, e)
				}
			}
		}
	})
}

// P2.7

func TestInvertLeavesItsList(t *testing.T) {
	eachSort(func(sort int, m *big.Int) {
		behind := []api.Elem{{7}, greatest, shifted(m, 3), {1, 2, 3, 4}, {9}, {11}}
		for n := range 5 {
			before := slices.Clone(behind)
			got, _ := Invert(sort, behind[:n])
			again, _ := Invert(sort, behind[:n])
			if !slices.Equal(behind, before) {
				t.Errorf("a list of the sort %d was changed", sort)
			}
			// What is written into an answer, its spare room too, is seen neither in the list nor in another answer.
			got = got[:cap(got)]
			for i := range got {
				got[i] = api.Elem{13}
			}
			third, _ := Invert(sort, behind[:n])
			if !slices.Equal(behind, before) || !slices.Equal(again, third) {
				t.Errorf("an answer of the sort %d shares memory", sort)
			}
		}
		// Nor is what is written into the list seen in an answer.
		list := []api.Elem{{2}, {3}}
		got, _ := Invert(sort, list)
		want := slices.Clone(got)
		list[0], list[1] = api.Elem{5}, api.Elem{6}
		if !slices.Equal(got, want) {
			t.Errorf("an answer of the sort %d shares memory with its list", sort)
		}
	})
}
