package domain

import (
	"math/big"
	"slices"
	"testing"

	"sigil/api"
)

// shifts: numbers that points can be shifted by, below the modulus and above.
func shifts(sort int) []api.Elem {
	s := stream(800 + sort)
	return []api.Elem{{1}, {2}, {5}, multiple(sort, 1, -1), multiple(sort, 1, 1), multiple(sort, 2, 9), greatest, s.elem()}
}

// lists: coefficients, or values, n of them: below the modulus, about it, and any numbers.
func lists(sort, n int) [][]api.Elem {
	s := stream(900 + sort*1024 + n)
	small, about := make([]api.Elem, n), make([]api.Elem, n)
	for i := range n {
		small[i] = api.Elem{uint64(i*i + 3)}
		about[i] = multiple(sort, int64(i%4), int64(i%3))
	}
	return [][]api.Elem{small, about, s.elems(n)}
}

// valueAt: a polynomial's value, power by power, by math/big.
func valueAt(sort int, coeffs []api.Elem, x api.Elem) api.Elem {
	m, sum, power := modulusOf(sort), new(big.Int), big.NewInt(1)
	for _, c := range coeffs {
		sum.Add(sum, new(big.Int).Mul(bigOf(c), power))
		power.Mul(power, bigOf(x)).Mod(power, m)
	}
	return mod(sort, sum)
}

// rest: each number modulo the modulus.
func rest(sort int, list []api.Elem) []api.Elem {
	out := make([]api.Elem, len(list))
	for i, a := range list {
		out[i] = mod(sort, bigOf(a))
	}
	return out
}

func valuesOf(t *testing.T, sort, k int, shift api.Elem, coeffs []api.Elem) []api.Elem {
	t.Helper()
	list, e := Values(sort, k, shift, coeffs)
	if len(list) != 1<<k || e != api.OK {
		t.Fatalf("Values(%d, %d, %v) of %d: %d of them, %d", sort, k, shift, len(coeffs), len(list), e)
	}
	return list
}

func coeffsOf(t *testing.T, sort, k int, shift api.Elem, values []api.Elem) []api.Elem {
	t.Helper()
	list, e := Coeffs(sort, k, shift, values)
	if len(list) != 1<<k || e != api.OK {
		t.Fatalf("Coeffs(%d, %d, %v) of %d: %d of them, %d", sort, k, shift, len(values), len(list), e)
	}
	return list
}

// P6.3

// held: are these the values of the coefficients, where there are many of them at some of the points?
func held(t *testing.T, sort, k int, shift api.Elem, coeffs []api.Elem) {
	t.Helper()
	list := pointsOf(t, sort, k)
	got := valuesOf(t, sort, k, shift, coeffs)
	step := max(1, len(list)/32-1)
	for i := 0; i < len(list); i += step {
		if want := valueAt(sort, coeffs, product(sort, shift, list[i])); got[i] != want {
			t.Fatalf("Values(%d, %d, %v) of %d at %d: %v, not %v", sort, k, shift, len(coeffs), i, got[i], want)
		}
	}
}

func TestValues(t *testing.T) {
	eachDomain(func(sort, k int) {
		n := 1 << k
		for _, many := range slices.Compact([]int{0, 1, n / 2, n/2 + 1, n - 1, n}) {
			for i, coeffs := range lists(sort, min(many, n)) {
				held(t, sort, k, shifts(sort)[i], coeffs)
			}
		}
	})
}

func TestValuesOfShifts(t *testing.T) {
	for sort := range 4 {
		for k := range 6 {
			for _, shift := range shifts(sort) {
				for _, coeffs := range lists(sort, 1<<k) {
					held(t, sort, k, shift, coeffs)
				}
			}
		}
	}
}

// One coefficient alone shows which power it belongs to.
func TestValuesOfPowers(t *testing.T) {
	for sort := range 4 {
		for k := range 6 {
			for i := range 1 << k {
				coeffs := make([]api.Elem, i+1)
				coeffs[i] = api.Elem{1}
				held(t, sort, k, api.Elem{3}, coeffs)
			}
		}
	}
}

func TestValuesOfNone(t *testing.T) {
	eachDomain(func(sort, k int) {
		for _, none := range [][]api.Elem{nil, {}} {
			got := valuesOf(t, sort, k, api.Elem{5}, none)
			if !slices.Equal(got, make([]api.Elem, 1<<k)) {
				t.Errorf("Values(%d, %d) of none: %v", sort, k, got)
			}
		}
	})
}

func TestCoeffs(t *testing.T) {
	eachDomain(func(sort, k int) {
		for i, values := range lists(sort, 1<<k) {
			for _, shift := range shifts(sort)[i:] {
				coeffs := coeffsOf(t, sort, k, shift, values)
				if again := valuesOf(t, sort, k, shift, coeffs); !slices.Equal(again, rest(sort, values)) {
					t.Errorf("Values of Coeffs(%d, %d, %v) of list %d aren't the values", sort, k, shift, i)
				}
			}
		}
	})
}

func TestCoeffsOfValues(t *testing.T) {
	eachDomain(func(sort, k int) {
		for i, coeffs := range lists(sort, 1<<k) {
			for _, shift := range shifts(sort)[i:] {
				values := valuesOf(t, sort, k, shift, coeffs)
				if again := coeffsOf(t, sort, k, shift, values); !slices.Equal(again, rest(sort, coeffs)) {
					t.Errorf("Coeffs of Values(%d, %d, %v) of list %d aren't the coefficients", sort, k, shift, i)
				}
			}
		}
	})
}

// The coefficients, held against the values power by power, without Values.
func TestCoeffsPowerByPower(t *testing.T) {
	for sort := range 4 {
		for k := range 7 {
			for i, values := range lists(sort, 1<<k) {
				shift := shifts(sort)[i+4]
				coeffs := coeffsOf(t, sort, k, shift, values)
				for j, p := range pointsOf(t, sort, k) {
					if got := valueAt(sort, coeffs, product(sort, shift, p)); got != mod(sort, bigOf(values[j])) {
						t.Fatalf("Coeffs(%d, %d, %v) of list %d at the point %d: %v", sort, k, shift, i, j, got)
					}
				}
			}
		}
	}
}

func TestShiftOfZero(t *testing.T) {
	eachDomain(func(sort, k int) {
		for _, shift := range noughts(sort) {
			for _, n := range []int{0, 1, 1<<k - 1, 1 << k, 1<<k + 1} {
				list := make([]api.Elem, n)
				if got, e := Values(sort, k, shift, list); len(got) != 0 || e != api.ErrZero {
					t.Errorf("Values(%d, %d, %v) of %d: %v %d", sort, k, shift, n, got, e)
				}
				if got, e := Coeffs(sort, k, shift, list); len(got) != 0 || e != api.ErrZero {
					t.Errorf("Coeffs(%d, %d, %v) of %d: %v %d", sort, k, shift, n, got, e)
				}
			}
		}
	})
}

func TestWrongLengths(t *testing.T) {
	eachDomain(func(sort, k int) {
		for _, shift := range shifts(sort) {
			for _, n := range []int{1<<k + 1, 1<<k + 2, 2 << k, 2000} {
				if got, e := Values(sort, k, shift, make([]api.Elem, n)); len(got) != 0 || e != api.ErrLength {
					t.Errorf("Values(%d, %d, %v) of %d: %v %d", sort, k, shift, n, got, e)
				}
			}
			for _, n := range []int{0, 1<<k - 1, 1<<k + 1, 1 << k / 2, 2 << k, 2000} {
				if got, e := Coeffs(sort, k, shift, make([]api.Elem, n)); len(got) != 0 || e != api.ErrLength {
					t.Errorf("Coeffs(%d, %d, %v) of %d: %v %d", sort, k, shift, n, got, e)
				}
			}
		}
	})
}

func TestTransformExamples(t *testing.T) {
	values := valuesOf(t, 0, 1, api.Elem{1}, []api.Elem{{3}, {4}})
	if !slices.Equal(values, []api.Elem{{7}, {16513536}}) {
		t.Error(values)
	}
	if coeffs := coeffsOf(t, 0, 1, api.Elem{1}, values); !slices.Equal(coeffs, []api.Elem{{3}, {4}}) {
		t.Error(coeffs)
	}
}

// P6.5

// below: is every number below the modulus?
func below(t *testing.T, sort int, list ...api.Elem) {
	t.Helper()
	for _, a := range list {
		if bigOf(a).Cmp(modulusOf(sort)) >= 0 {
			t.Errorf("%v isn't below the modulus of the sort %d", a, sort)
		}
	}
}

func TestAllBelowTheModulus(t *testing.T) {
	eachDomain(func(sort, k int) {
		below(t, sort, pointsOf(t, sort, k)...)
		for _, list := range lists(sort, 1<<k) {
			for _, shift := range shifts(sort) {
				below(t, sort, valuesOf(t, sort, k, shift, list)...)
				below(t, sort, coeffsOf(t, sort, k, shift, list)...)
			}
		}
		for _, x := range others(sort) {
			v, _ := Vanish(sort, k, x)
			l, _ := Lagrange(sort, k, 1<<k-1, x)
			below(t, sort, v, l)
		}
	})
}

func TestTransformsShareNoMemory(t *testing.T) {
	calls := []func(sort, k int, shift api.Elem, list []api.Elem) ([]api.Elem, api.Errno){Values, Coeffs}
	eachDomain(func(sort, k int) {
		for _, call := range calls {
			// Room behind the list, which is the caller's.
			all := append(lists(sort, 1<<k)[2], greatest, greatest, greatest)
			kept := slices.Clone(all)
			first, _ := call(sort, k, api.Elem{5}, all[:1<<k])
			if !slices.Equal(all, kept) {
				t.Fatalf("the sort %d, the size %d: what is handed in was changed", sort, k)
			}
			answer := slices.Clone(first)
			again, _ := call(sort, k, api.Elem{5}, all[:1<<k])
			spoil(first)
			if !slices.Equal(all, kept) || !slices.Equal(again, answer) {
				t.Fatalf("the sort %d, the size %d: what is answered shares memory", sort, k)
			}
			spoil(all)
			if !slices.Equal(again, answer) {
				t.Fatalf("the sort %d, the size %d: what is handed in was kept", sort, k)
			}
			third, _ := call(sort, k, api.Elem{5}, kept[:1<<k])
			if !slices.Equal(third, answer) {
				t.Fatalf("the sort %d, the size %d: a later answer has changed", sort, k)
			}
		}
	})
}

// A call that is refused changes nothing either.
func TestRefusedListsStay(t *testing.T) {
	for sort := range 4 {
		all := append(lists(sort, 5)[2], greatest, greatest)
		kept := slices.Clone(all)
		for _, shift := range []api.Elem{{}, {1}, greatest} {
			Values(sort, 2, shift, all[:5])
			Coeffs(sort, 2, shift, all[:5])
			Coeffs(sort, 3, shift, all[:5])
			Values(sort+4, 3, shift, all[:5])
			Coeffs(sort, 10, shift, all[:5])
		}
		if !slices.Equal(all, kept) {
			t.Errorf("the sort %d: what is handed in was changed", sort)
		}
	}
}
