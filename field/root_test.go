package field

import (
	"math"
	"math/big"
	"testing"

	"sigil/api"
)

// P2.4

// checkSqrt: Sqrt told by its definition, not by how it is found.
func checkSqrt(t *testing.T, sort int, m *big.Int, a api.Elem) {
	t.Helper()
	got, e := Sqrt(sort, a)
	if big.Jacobi(new(big.Int).Mod(bigOf(a), m), m) == -1 {
		if got != (api.Elem{}) || e != api.ErrSquare {
			t.Errorf("Sqrt(%d, %v): %v %d, but there is no root", sort, a, got, e)
		}
		return
	}
	root := bigOf(got)
	if e != api.OK || root.Cmp(m) >= 0 || root.Bit(0) != 0 || mod(sort, new(big.Int).Mul(root, root)) != mod(sort, bigOf(a)) {
		t.Errorf("Sqrt(%d, %v): %v %d", sort, a, got, e)
	}
}

func TestSqrt(t *testing.T) {
	eachSort(func(sort int, m *big.Int) {
		s := stream(50 + sort)
		list := edges(sort)
		for range 500 {
			list = append(list, s.elem())
		}
		for _, a := range list {
			square := mod(sort, new(big.Int).Mul(bigOf(a), bigOf(a)))
			checkSqrt(t, sort, m, a)
			checkSqrt(t, sort, m, square)
			checkSqrt(t, sort, m, mod(sort, new(big.Int).Mul(big.NewInt(5), bigOf(square))))
		}
		for _, a := range noughts(sort) {
			if got, e := Sqrt(sort, a); got != (api.Elem{}) || e != api.OK {
				t.Errorf("Sqrt(%d, %v): %v %d", sort, a, got, e)
			}
		}
	})
}

// The squares of all orders: how long a root is sought hangs on the order alone.
func TestSqrtOfUnityRoots(t *testing.T) {
	eachSort(func(sort int, m *big.Int) {
		twos, _ := Adicity(sort)
		for k := range twos + 1 {
			root, _ := Root(sort, k)
			checkSqrt(t, sort, m, root)
			checkSqrt(t, sort, m, Mul(sort, root, api.Elem{49}))
			checkSqrt(t, sort, m, Exp(sort, root, api.Elem{3}))
			if _, e := Sqrt(sort, root); (e == api.OK) != (k < twos) {
				t.Errorf("Sqrt of a root of the order 2^%d of the sort %d: %d", k, sort, e)
			}
		}
	})
}

func TestSqrtExamples(t *testing.T) {
	for _, example := range []struct {
		a, want uint64
		e       api.Errno
	}{{4, 2, api.OK}, {1, 16513536, api.OK}, {5, 0, api.ErrSquare}, {0, 0, api.OK}, {16513537 + 4, 2, api.OK}, {16513537 + 5, 0, api.ErrSquare}} {
		if got, e := Sqrt(0, api.Elem{example.a}); got != (api.Elem{example.want}) || e != example.e {
			t.Errorf("Sqrt(0, %d): %v %d", example.a, got, e)
		}
	}
}

// P2.5

func TestRoot(t *testing.T) {
	one := big.NewInt(1)
	eachSort(func(sort int, m *big.Int) {
		twos := int(new(big.Int).Sub(m, one).TrailingZeroBits())
		for k := range twos + 1 {
			e := new(big.Int).Sub(m, one)
			want := elemOf(e.Exp(big.NewInt(5), e.Rsh(e, uint(k)), m))
			got, err := Root(sort, k)
			if got != want || err != api.OK {
				t.Errorf("Root(%d, %d): %v %d, not %v", sort, k, got, err, want)
			}
			// The order is 2^k: half as often it counts to -1.
			if k > 0 && Exp(sort, got, api.Elem{1 << (k - 1)}) != shifted(m, -1) {
				t.Errorf("Root(%d, %d) has another order", sort, k)
			}
		}
		for _, k := range []int{-1, -2, twos + 1, twos + 2, 64, 256, math.MinInt, math.MaxInt} {
			if got, e := Root(sort, k); got != (api.Elem{}) || e != api.ErrSize {
				t.Errorf("Root(%d, %d): %v %d", sort, k, got, e)
			}
		}
	})
	if got, e := Root(0, 0); got != (api.Elem{1}) || e != api.OK {
		t.Errorf("Root(0, 0): %v %d", got, e)
	}
	if got, e := Root(0, 1); got != (api.Elem{16513536}) || e != api.OK {
		t.Errorf("Root(0, 1): %v %d", got, e)
	}
}
