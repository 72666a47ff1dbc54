package lookup

import (
	"math/big"
	"slices"
	"testing"

	"sigil/api"
)

// P17.1

// compressedBy: what Compress answers, by the document's words: each value times its own power of theta.
func compressedBy(sort int, theta api.Elem, values []api.Elem) api.Elem {
	if sort < 0 || sort > 3 {
		return api.Elem{}
	}
	f := fieldOf(sort)
	sum := new(big.Int)
	for i, v := range values {
		sum = f.add(sum, f.mul(f.of(v), f.power(f.of(theta), big.NewInt(int64(len(values)-1-i)))))
	}
	return elemOf(sum)
}

func compressed(t *testing.T, sort int, theta api.Elem, values []api.Elem) {
	t.Helper()
	if got, want := Compress(sort, theta, values), compressedBy(sort, theta, values); got != want {
		t.Errorf("Compress(%d, %v, %v): %v, not %v", sort, theta, values, got, want)
	}
}

func TestCompressByHand(t *testing.T) {
	for sort := range 4 {
		for _, example := range []struct {
			theta  api.Elem
			values []api.Elem
			want   api.Elem
		}{
			{api.Elem{10}, elemsOf(1, 2, 3), api.Elem{123}},
			{api.Elem{10}, elemsOf(3, 2, 1), api.Elem{321}},
			{api.Elem{10}, elemsOf(7), api.Elem{7}},
			{api.Elem{10}, nil, api.Elem{}},
			{api.Elem{10}, []api.Elem{}, api.Elem{}},
			{api.Elem{}, elemsOf(5, 6, 7), api.Elem{7}},
			{api.Elem{1}, elemsOf(5, 6, 7), api.Elem{18}},
			{beside(sort, 10, 2), elemsOf(1, 2, 3), api.Elem{123}},
			{beside(sort, -1, 1), elemsOf(5, 6, 7), api.Elem{6}},
			{api.Elem{9}, []api.Elem{beside(sort, 5, 1)}, api.Elem{5}},
			{api.Elem{9}, []api.Elem{beside(sort, 0, 3)}, api.Elem{}},
		} {
			if got := Compress(sort, example.theta, example.values); got != example.want {
				t.Errorf("Compress(%d, %v, %v): %v, not %v", sort, example.theta, example.values, got, example.want)
			}
		}
	}
}

func TestCompressOfAny(t *testing.T) {
	s := stream(10)
	for sort := range 4 {
		for _, count := range []int{0, 1, 2, 3, 4, 5, 16, 64, 65, 200} {
			for range 5 {
				compressed(t, sort, s.elem(sort), s.elems(sort, count))
			}
		}
	}
}

// There is no bound on how many values there are.
func TestCompressOfMany(t *testing.T) {
	s := stream(11)
	for sort := range 4 {
		compressed(t, sort, s.wide(), s.elems(sort, 3000))
		many := slices.Repeat([]api.Elem{{1}}, 100001)
		if got := Compress(sort, api.Elem{1}, many); got != (api.Elem{100001}) {
			t.Errorf("%v", got)
		}
	}
}

func TestCompressOfNoField(t *testing.T) {
	s := stream(12)
	for _, sort := range wrongSorts {
		for count := range 5 {
			values := s.elems(0, count)
			if got := Compress(sort, s.wide(), values); got != (api.Elem{}) {
				t.Errorf("Compress(%d, .., %v): %v", sort, values, got)
			}
			if got := Compress(sort, api.Elem{10}, elemsOf(1, 2, 3)); got != (api.Elem{}) {
				t.Errorf("Compress(%d, ..): %v", sort, got)
			}
		}
	}
}
