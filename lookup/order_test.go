package lookup

import (
	"math/big"
	"slices"
	"testing"

	"sigil/api"
)

// P17.2

// counts: how often each element is there, in the order of the numbers.
func counts(sort int, list []api.Elem) (values []*big.Int, often map[string]int) {
	f, often := fieldOf(sort), map[string]int{}
	for _, v := range list {
		n := f.of(v)
		if often[n.String()] == 0 {
			values = append(values, n)
		}
		often[n.String()]++
	}
	slices.SortFunc(values, (*big.Int).Cmp)
	return values, often
}

// permutedBy: what Permute answers, by the document's words: by how often each value is there.
func permutedBy(sort int, inputs, tables []api.Elem) (sorted, matched []api.Elem, wrong api.Errno) {
	switch {
	case sort < 0 || sort > 3:
		return nil, nil, api.ErrSort
	case len(inputs) != len(tables) || len(inputs) > 64 || len(tables) > 64:
		return nil, nil, api.ErrLength
	}
	asked, often := counts(sort, inputs)
	there, left := counts(sort, tables)
	for _, v := range asked {
		if left[v.String()] == 0 {
			return nil, nil, api.ErrUnsatisfied
		}
		left[v.String()]--
	}
	var others []api.Elem
	for _, v := range there {
		others = append(others, slices.Repeat([]api.Elem{elemOf(v)}, left[v.String()])...)
	}
	for _, v := range asked {
		more := often[v.String()] - 1
		sorted = append(sorted, slices.Repeat([]api.Elem{elemOf(v)}, more+1)...)
		matched = append(append(matched, elemOf(v)), others[:more]...)
		others = others[more:]
	}
	return sorted, matched, api.OK
}

func permuted(t *testing.T, sort int, inputs, tables []api.Elem) api.Errno {
	t.Helper()
	sorted, matched, wrong := permutedBy(sort, inputs, tables)
	a, b, e := Permute(sort, inputs, tables)
	if e != wrong || !slices.Equal(a, sorted) || !slices.Equal(b, matched) {
		t.Errorf("Permute(%d, %v, %v): %v, %v, %d, not %v, %v, %d", sort, inputs, tables, a, b, e, sorted, matched, wrong)
	}
	return e
}

// unpermuted: Permute answers that error alone.
func unpermuted(t *testing.T, sort int, inputs, tables []api.Elem, wrong api.Errno) {
	t.Helper()
	if a, b, e := Permute(sort, inputs, tables); e != wrong || len(a) != 0 || len(b) != 0 {
		t.Errorf("Permute(%d, %v, %v): %v, %v, %d, not %d", sort, inputs, tables, a, b, e, wrong)
	}
}

func TestPermuteByHand(t *testing.T) {
	for sort := range 4 {
		for _, example := range [][4][]api.Elem{
			{elemsOf(3, 1, 3), elemsOf(1, 2, 3), elemsOf(1, 3, 3), elemsOf(1, 3, 2)},
			{nil, nil, nil, nil},
			{nil, {}, nil, nil},
			{{}, nil, nil, nil},
			{elemsOf(0), elemsOf(0), elemsOf(0), elemsOf(0)},
			{elemsOf(2, 1), elemsOf(1, 2), elemsOf(1, 2), elemsOf(1, 2)},
			// What is left rises, whatever the order of the tables is, and stands behind what is met first.
			{elemsOf(5, 5, 5, 5), elemsOf(9, 5, 7, 0), elemsOf(5, 5, 5, 5), elemsOf(5, 0, 7, 9)},
			{elemsOf(8, 2, 8, 2, 8), elemsOf(4, 8, 1, 2, 6), elemsOf(2, 2, 8, 8, 8), elemsOf(2, 1, 8, 4, 6)},
			// Of what is there several times just one is taken away.
			{elemsOf(1, 1, 1), elemsOf(1, 1, 1), elemsOf(1, 1, 1), elemsOf(1, 1, 1)},
			{elemsOf(7, 3, 3, 3), elemsOf(3, 3, 7, 7), elemsOf(3, 3, 3, 7), elemsOf(3, 3, 7, 7)},
			// Numbers are told by their remainders.
			{{beside(sort, 3, 1), {1}, {3}}, {{1}, beside(sort, 2, 2), beside(sort, 3, 3)}, elemsOf(1, 3, 3), elemsOf(1, 3, 2)},
			{{beside(sort, 0, 1), beside(sort, -1, 1)}, {beside(sort, -1, 2), {}}, {{}, beside(sort, -1, 1)}, {{}, beside(sort, -1, 1)}},
		} {
			a, b, e := Permute(sort, example[0], example[1])
			if e != api.OK || !slices.Equal(a, example[2]) || !slices.Equal(b, example[3]) {
				t.Errorf("Permute(%d, %v, %v): %v, %v, %d", sort, example[0], example[1], a, b, e)
			}
		}
	}
}

// Numbers rise by their words from the greatest on, not by the least.
func TestPermuteRisesAsNumbers(t *testing.T) {
	list := []api.Elem{{0, 0, 0, 1}, {5, 0, 0, 0}, {9, 1, 0, 0}, {0, 0, 1, 0}, {1, 2, 0, 0}, {7, 0, 1, 0}, {0, 1, 0, 0}, {3, 3, 3, 0}}
	want := []api.Elem{{5, 0, 0, 0}, {0, 1, 0, 0}, {9, 1, 0, 0}, {1, 2, 0, 0}, {0, 0, 1, 0}, {7, 0, 1, 0}, {3, 3, 3, 0}, {0, 0, 0, 1}}
	for sort := 2; sort < 4; sort++ {
		a, b, e := Permute(sort, list, list)
		if e != api.OK || !slices.Equal(a, want) || !slices.Equal(b, want) {
			t.Errorf("%v, %v, %d", a, b, e)
		}
		// All inputs are the same one: the others are left, rising.
		a, b, e = Permute(sort, slices.Repeat([]api.Elem{{1, 2, 0, 0}}, 8), list)
		left := append([]api.Elem{{1, 2, 0, 0}}, append(slices.Clone(want[:3]), want[4:]...)...)
		if e != api.OK || !slices.Equal(b, left) {
			t.Errorf("%v, %v, %d", a, b, e)
		}
	}
}

// found: inputs that are all of the tables, in numbers that may stand above the modulus.
func (s *stream) found(sort, count, values int) (inputs, tables []api.Elem) {
	pool := s.elems(sort, values)
	for range count {
		tables = append(tables, pool[s.below(values)])
	}
	for range count {
		v := tables[s.below(count)]
		if s.below(3) == 0 {
			v = lifted(sort, v)
		}
		inputs = append(inputs, v)
	}
	return inputs, tables
}

func TestPermuteOfAny(t *testing.T) {
	s := stream(20)
	for sort := range 4 {
		for _, count := range []int{1, 2, 3, 4, 5, 12, 28, 63, 64} {
			for _, values := range []int{1, 2, 5, 64} {
				for range 4 {
					inputs, tables := s.found(sort, count, values)
					if e := permuted(t, sort, inputs, tables); e != api.OK {
						t.Error(e)
					}
				}
			}
		}
	}
}

// Of few small numbers some inputs are found and some aren't.
func TestPermuteOfFew(t *testing.T) {
	s := stream(21)
	met := map[api.Errno]int{}
	for range 4000 {
		sort, count := s.below(4), s.below(7)
		var inputs, tables []api.Elem
		for range count {
			inputs, tables = append(inputs, beside(sort, s.below(4), s.below(3))), append(tables, beside(sort, s.below(4), s.below(3)))
		}
		met[permuted(t, sort, inputs, tables)]++
	}
	if met[api.OK] < 300 || met[api.ErrUnsatisfied] < 300 {
		t.Errorf("too few of a kind: %v", met)
	}
}

// What is answered has the same elements as what was handed in; each sorted input is matched, or is the one ahead of it.
func TestPermuteKeepsElements(t *testing.T) {
	s := stream(22)
	inOrder := func(sort int, list []api.Elem) []api.Elem {
		var out []api.Elem
		for _, v := range list {
			out = append(out, elemOf(fieldOf(sort).of(v)))
		}
		slices.SortFunc(out, func(a, b api.Elem) int { return bigOf(a).Cmp(bigOf(b)) })
		return out
	}
	for sort := range 4 {
		for count := 1; count <= 64; count++ {
			inputs, tables := s.found(sort, count, 1+s.below(count))
			a, b, e := Permute(sort, inputs, tables)
			if e != api.OK || !slices.Equal(a, inOrder(sort, inputs)) || !slices.Equal(inOrder(sort, b), inOrder(sort, tables)) {
				t.Fatalf("%v, %v, %d", a, b, e)
			}
			for i := range a {
				if a[i] != b[i] && (i == 0 || a[i] != a[i-1]) {
					t.Errorf("%v, %v", a, b)
				}
			}
		}
	}
}

func TestPermuteOfNoField(t *testing.T) {
	for _, sort := range wrongSorts {
		unpermuted(t, sort, nil, nil, api.ErrSort)
		unpermuted(t, sort, elemsOf(3, 1, 3), elemsOf(1, 2, 3), api.ErrSort)
		// Told ahead of lists that don't fit, and of inputs that aren't found.
		unpermuted(t, sort, elemsOf(3), nil, api.ErrSort)
		unpermuted(t, sort, elemsOf(3), elemsOf(4), api.ErrSort)
		unpermuted(t, sort, make([]api.Elem, 65), make([]api.Elem, 65), api.ErrSort)
	}
}

func TestPermuteOfLists(t *testing.T) {
	for sort := range 4 {
		for inputs := range 70 {
			for _, tables := range []int{0, 1, inputs - 1, inputs, inputs + 1, 63, 64, 65, 66, 200} {
				if tables < 0 {
					continue
				}
				a, b := make([]api.Elem, inputs), make([]api.Elem, tables)
				if inputs == tables && inputs <= 64 {
					permuted(t, sort, a, b)
					continue
				}
				unpermuted(t, sort, a, b, api.ErrLength)
				// Told ahead of inputs that aren't found.
				if inputs > 0 {
					a[inputs-1] = api.Elem{1}
					unpermuted(t, sort, a, b, api.ErrLength)
				}
			}
		}
		for _, count := range []int{65, 66, 128, 100000} {
			unpermuted(t, sort, make([]api.Elem, count), make([]api.Elem, count), api.ErrLength)
		}
	}
}

// One input alone that isn't found is told, at any place, be it beside, below or above all tables.
func TestPermuteUnsatisfied(t *testing.T) {
	s := stream(23)
	for sort := range 4 {
		for _, count := range []int{1, 2, 4, 12, 28, 64} {
			tables := make([]api.Elem, count)
			for i := range tables {
				tables[i] = api.Elem{uint64(10 + 2*s.below(40))}
			}
			for at := range count {
				for _, other := range []api.Elem{{}, {9}, {13}, {91}, beside(sort, -1, 1), beside(sort, 13, 1)} {
					inputs := slices.Clone(tables)
					inputs[at] = other
					unpermuted(t, sort, inputs, tables, api.ErrUnsatisfied)
				}
			}
		}
		unpermuted(t, sort, elemsOf(4), elemsOf(3), api.ErrUnsatisfied)
	}
	// A number of one field is found, where of another it isn't.
	inputs, tables := []api.Elem{{16513537 + 3}}, []api.Elem{{3}}
	permuted(t, 0, inputs, tables)
	if _, _, e := Permute(0, inputs, tables); e != api.OK {
		t.Error(e)
	}
	unpermuted(t, 1, inputs, tables, api.ErrUnsatisfied)
	unpermuted(t, 2, inputs, tables, api.ErrUnsatisfied)
}

// In which order the inputs and the tables come doesn't matter.
func TestPermuteOfAnyOrder(t *testing.T) {
	s := stream(24)
	shuffled := func(list []api.Elem) []api.Elem {
		out := slices.Clone(list)
		for i := range out {
			j := i + s.below(len(out)-i)
			out[i], out[j] = out[j], out[i]
		}
		return out
	}
	for sort := range 4 {
		for _, count := range []int{2, 7, 28, 64} {
			inputs, tables := s.found(sort, count, count/2+1)
			sorted, matched, e := Permute(sort, inputs, tables)
			for range 4 {
				a, b, again := Permute(sort, shuffled(inputs), shuffled(tables))
				if e != api.OK || again != e || !slices.Equal(a, sorted) || !slices.Equal(b, matched) {
					t.Errorf("%v, %v, %d, not %v, %v, %d", a, b, again, sorted, matched, e)
				}
			}
			// Nor which numbers stand for the elements; and what is answered is its own answer.
			a, b, again := Permute(sort, liftedList(sort, inputs), liftedList(sort, tables))
			if again != e || !slices.Equal(a, sorted) || !slices.Equal(b, matched) {
				t.Errorf("%v, %v, %d, not %v, %v, %d", a, b, again, sorted, matched, e)
			}
			a, b, again = Permute(sort, sorted, matched)
			if again != e || !slices.Equal(a, sorted) || !slices.Equal(b, matched) {
				t.Errorf("%v, %v, %d, not %v, %v, %d", a, b, again, sorted, matched, e)
			}
		}
	}
}
