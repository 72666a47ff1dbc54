package keys

import (
	"math/big"
	"slices"
	"testing"

	"sigil/api"
)

// columned: Columns answers that; with an error nothing else.
func columned(t *testing.T, sort int, c api.Circuit, k int, s api.Sheet, fixed, sigma [][]api.Elem, wrong api.Errno) {
	t.Helper()
	gotFixed, gotSigma, e := Columns(sort, c, k, s)
	if e != wrong || !sameColumns(gotFixed, fixed) || !sameColumns(gotSigma, sigma) {
		t.Errorf("Columns(%d, %v, %d, %v): %v, %v, %d, not %v, %v, %d", sort, c, k, s, gotFixed, gotSigma, e, fixed, sigma, wrong)
	}
}

// P15.2

// Labels of the field of sort 0, by hand: d is 5^512 and 1 the first point.
func TestColumnsByHand(t *testing.T) {
	c, s := two(api.Copy{A: at(0, 0), B: at(1, 0)})
	_, sigma, e := Columns(0, c, 3, s)
	if e != api.OK || len(sigma) != 2 || len(sigma[0]) != 8 || len(sigma[1]) != 8 {
		t.Fatal(sigma, e)
	}
	m := big.NewInt(16513537)
	d := new(big.Int).Exp(big.NewInt(5), big.NewInt(512), m)
	w := new(big.Int).Exp(big.NewInt(5), big.NewInt(16513536/8), m)
	dw := new(big.Int).Mul(d, w)
	want := []api.Elem{elemOf(d), elemOf(w), {1}, elemOf(dw.Mod(dw, m))}
	if got := []api.Elem{sigma[0][0], sigma[0][1], sigma[1][0], sigma[1][1]}; !slices.Equal(got, want) {
		t.Errorf("%v, not %v", got, want)
	}
}

// Where nothing is copied, all labels are different ones: places are told apart, and rows are.
func TestLabelsAreApart(t *testing.T) {
	c, s := greatestOne()
	s.Copies = nil
	for sort := range 4 {
		_, sigma, e := Columns(sort, c, 5, s)
		met := map[api.Elem]int{}
		for _, labels := range sigma {
			for _, label := range labels {
				met[label]++
			}
		}
		if e != api.OK || len(met) != 8*32 {
			t.Errorf("in the field of sort %d there are %d labels, %d", sort, len(met), e)
		}
	}
}

// Values are elements, in all rows, and 0 where there is none.
func TestColumnsValues(t *testing.T) {
	c := api.Circuit{Fixed: 3, Advice: 1}
	for sort := range 4 {
		for k := 3; k <= 5; k++ {
			fixed := [][]api.Elem{nil, {beside(sort, 0, 1), beside(sort, 1, 2), beside(sort, -1, 1), {7}}, slices.Repeat([]api.Elem{greatest}, 1<<k-4)}
			s := api.Sheet{Fixed: fixed, Advice: [][]api.Elem{column(1, 2, 3)}}
			got, sigma, e := Columns(sort, c, k, s)
			if e != api.OK || len(sigma) != 0 || len(got) != 3 {
				t.Fatal(got, sigma, e)
			}
			zeros := make([]api.Elem, 1<<k)
			if !slices.Equal(got[0], zeros) {
				t.Errorf("a column without values: %v", got[0])
			}
			want := append([]api.Elem{{}, {1}, beside(sort, -1, 1), {7}}, zeros[4:]...)
			if !slices.Equal(got[1], want) {
				t.Errorf("%v, not %v", got[1], want)
			}
			rest := bigOf(greatest)
			rest.Mod(rest, modulusOf(sort))
			want = append(slices.Repeat([]api.Elem{elemOf(rest)}, 1<<k-4), zeros[:4]...)
			if !slices.Equal(got[2], want) {
				t.Errorf("%v, not %v", got[2], want)
			}
		}
	}
}

func TestColumnsOfTheCircuits(t *testing.T) {
	for sort := range 4 {
		for k := 3; k <= 5; k++ {
			for _, of := range []func() (api.Circuit, api.Sheet){least, full, greatestOne} {
				c, s := of()
				fixed, sigma, wrong := columnsBy(sort, c, k, s)
				columned(t, sort, c, k, s, fixed, sigma, wrong)
			}
		}
	}
}

// A wrong sort is told ahead of all else.
func TestColumnsRefuses(t *testing.T) {
	for _, sort := range wrongSorts {
		c, s := full()
		columned(t, sort, c, 3, s, nil, nil, api.ErrSort)
		columned(t, sort, c, 6, s, nil, nil, api.ErrSort)
		columned(t, sort, c, 3, api.Sheet{}, nil, nil, api.ErrSort)
		columned(t, sort, api.Circuit{}, 0, api.Sheet{}, nil, nil, api.ErrSort)
		c.Nodes[0].Op = 9
		columned(t, sort, c, 3, s, nil, nil, api.ErrSort)
	}
}

// Any circuits and sheets, right ones and wrong ones, by the document's words.
func TestColumnsOfAny(t *testing.T) {
	sheets(20, 300, func(sort int, c api.Circuit, k int, s api.Sheet) {
		fixed, sigma, wrong := columnsBy(sort, c, k, s)
		columned(t, sort, c, k, s, fixed, sigma, wrong)
	})
}
