package lookup

import (
	"math/big"
	"slices"
	"testing"

	"sigil/api"
	"sigil/domain"
	"sigil/permute"
	"sigil/poly"
)

// P17.4

// looked is what Checks is handed.
type looked struct {
	sort        int
	spot        api.Spot
	seek        api.Seek
	beta, gamma api.Elem
}

func (l looked) answered() []api.Elem { return Checks(l.sort, l.spot, l.seek, l.beta, l.gamma) }

// byWords: what Checks answers, by the document's words.
func (l looked) byWords() []api.Elem {
	if l.sort < 0 || l.sort > 3 {
		return nil
	}
	f := fieldOf(l.sort)
	first, last, usable := f.of(l.spot.First), f.of(l.spot.Last), f.of(l.spot.Usable)
	input, table, sorted, matched := f.of(l.seek.Input), f.of(l.seek.Table), f.of(l.seek.Sorted), f.of(l.seek.Matched)
	at, next, back := f.of(l.seek.At), f.of(l.seek.Next), f.of(l.seek.Back)
	beta, gamma := f.of(l.beta), f.of(l.gamma)
	below := f.mul(next, f.add(sorted, beta), f.add(matched, gamma))
	above := f.mul(at, f.add(input, beta), f.add(table, gamma))
	return []api.Elem{
		elemOf(f.mul(first, f.sub(big.NewInt(1), at))),
		elemOf(f.mul(last, f.sub(f.mul(at, at), at))),
		elemOf(f.mul(usable, f.sub(below, above))),
		elemOf(f.mul(first, f.sub(sorted, matched))),
		elemOf(f.mul(usable, f.sub(sorted, matched), f.sub(sorted, back))),
	}
}

// told: Checks answers what the document's words say.
func (l looked) told(t *testing.T) {
	t.Helper()
	if got, want := l.answered(), l.byWords(); !slices.Equal(got, want) {
		t.Errorf("Checks of %v: %v, not %v", l, got, want)
	}
}

// numbers: all that is handed in, but for the sort.
func (l *looked) numbers() []*api.Elem {
	return []*api.Elem{
		&l.spot.X, &l.spot.First, &l.spot.Last, &l.spot.Usable,
		&l.seek.Input, &l.seek.Table, &l.seek.Sorted, &l.seek.Back, &l.seek.Matched, &l.seek.At, &l.seek.Next,
		&l.beta, &l.gamma,
	}
}

// looked: what Checks may be handed, of any numbers.
func (s *stream) looked(sort int) looked {
	l := looked{sort: sort}
	for _, v := range l.numbers() {
		*v = s.elem(sort)
	}
	return l
}

func TestChecksByHand(t *testing.T) {
	for sort := range 4 {
		l := looked{
			sort: sort, beta: api.Elem{5}, gamma: api.Elem{7},
			spot: api.Spot{X: api.Elem{99}, First: api.Elem{10}, Last: api.Elem{100}, Usable: api.Elem{1000}},
			seek: api.Seek{Input: api.Elem{1}, Table: api.Elem{2}, Sorted: api.Elem{9}, Back: api.Elem{6}, Matched: api.Elem{4}, At: api.Elem{3}, Next: api.Elem{8}},
		}
		// 10 (1 - 3), 100 (9 - 3), 1000 (8 * 14 * 11 - 3 * 6 * 9), 10 (9 - 4), 1000 (9 - 4) (9 - 6).
		want := []api.Elem{beside(sort, -20, 1), {600}, {1070000}, {50}, {15000}}
		if got := l.answered(); !slices.Equal(got, want) {
			t.Errorf("%v, not %v", got, want)
		}
		// All numbers 0: the product isn't 1, but it needn't be.
		if got := (looked{sort: sort}).answered(); !slices.Equal(got, make([]api.Elem, 5)) {
			t.Errorf("%v", got)
		}
	}
}

func TestChecksOfAny(t *testing.T) {
	s := stream(50)
	for sort := range 4 {
		for range 300 {
			s.looked(sort).told(t)
		}
	}
}

// The point itself is of no matter: its three values are.
func TestChecksOfAnyPoint(t *testing.T) {
	s := stream(51)
	for sort := range 4 {
		l := s.looked(sort)
		want := l.answered()
		for range 4 {
			l.spot.X = s.elem(sort)
			if got := l.answered(); !slices.Equal(got, want) {
				t.Errorf("%v, not %v", got, want)
			}
		}
	}
}

func TestChecksOfNoField(t *testing.T) {
	s := stream(52)
	for _, sort := range wrongSorts {
		l := s.looked(0)
		l.sort = sort
		if got := l.answered(); len(got) != 0 {
			t.Errorf("Checks of %v: %v", l, got)
		}
		if got := (looked{sort: sort}).answered(); len(got) != 0 {
			t.Errorf("Checks by %d: %v", sort, got)
		}
	}
}

// A product that ends with 0 is no fault of its own: 0 too is its own square.
func TestChecksOfAnEnd(t *testing.T) {
	for sort := range 4 {
		for end, want := range elemsOf(0, 0, 2, 6) {
			l := looked{sort: sort, spot: api.Spot{Last: api.Elem{1}}, seek: api.Seek{At: api.Elem{uint64(end)}}}
			if got := l.answered(); !slices.Equal(got, []api.Elem{{}, want, {}, {}, {}}) {
				t.Errorf("%d: %v", end, got)
			}
		}
	}
}

// Numbers above the modulus stand for their remainders.
func TestChecksOfRemainders(t *testing.T) {
	s := stream(53)
	for sort := range 4 {
		l := s.looked(sort)
		want := l.answered()
		for _, v := range l.numbers() {
			*v = lifted(sort, *v)
			if got := l.answered(); !slices.Equal(got, want) {
				t.Errorf("%v, not %v", got, want)
			}
		}
	}
}

// table is all columns of a lookup, each of n values: the lists of asked with any numbers in the rows that aren't usable, and the product.
type table struct {
	asked
	columns [ofAll + 1][]api.Elem
}

// filled: the columns, with the product that Product answers.
func (s *stream) filled(t *testing.T, a asked) table {
	t.Helper()
	z, _, e := a.answered()
	if e != api.OK {
		t.Fatal(e)
	}
	f := table{asked: a}
	for i, list := range a.lists {
		f.columns[i] = append(slices.Clone(list), s.elems(a.sort, 4)...)
	}
	f.columns[ofAll] = z
	return f
}

func (f table) cloned() table {
	for i, values := range f.columns {
		f.columns[i] = slices.Clone(values)
	}
	return f
}

// looked: how the columns look at a point, by what tells a column's value so many rows on.
func (f table) looked(t *testing.T, x api.Elem, value func(column, rot int) api.Elem) looked {
	t.Helper()
	spot, e := permute.Place(f.sort, f.k, x)
	if e != api.OK {
		t.Fatal(e)
	}
	seek := api.Seek{
		Input: value(ofInputs, 0), Table: value(ofTables, 0), Sorted: value(ofSorted, 0), Back: value(ofSorted, -1), Matched: value(ofMatched, 0),
		At: value(ofAll, 0), Next: value(ofAll, 1),
	}
	return looked{sort: f.sort, spot: spot, seek: seek, beta: f.beta, gamma: f.gamma}
}

// broken: the checks that aren't 0, each with the row at whose point it isn't: {check, row}.
func (f table) broken(t *testing.T) [][2]int {
	t.Helper()
	var list [][2]int
	n := 1 << f.k
	for row := range n {
		l := f.looked(t, elemOf(fieldOf(f.sort).point(f.k, row)), func(column, rot int) api.Elem { return f.columns[column][(row+rot+n)%n] })
		l.told(t)
		for i, v := range l.answered() {
			if v != (api.Elem{}) {
				list = append(list, [2]int{i, row})
			}
		}
	}
	return list
}

func sameFaults(t *testing.T, f table, want [][2]int) {
	t.Helper()
	byPlace := func(x, y [2]int) int { return slices.Compare(x[:], y[:]) }
	got := f.broken(t)
	slices.SortFunc(got, byPlace)
	slices.SortFunc(want, byPlace)
	if !slices.Equal(got, want) {
		t.Errorf("%v: %v, not %v", f.asked, got, want)
	}
}

// Each is 0 in each row, if all inputs are found: what is proved is accepted.
func TestChecksOfFound(t *testing.T) {
	s := stream(54)
	sizes(func(sort, k int) {
		for range 6 {
			sameFaults(t, s.filled(t, s.lookedUp(t, sort, k)), nil)
		}
	})
}

// An input that isn't found is told, whatever the lists beside it are: by the end of the product, if it isn't among the sorted ones, else by its place there.
func TestChecksOfMissing(t *testing.T) {
	s := stream(55)
	sizes(func(sort, k int) {
		u := 1<<k - 4
		for range 4 {
			a := s.lookedUp(t, sort, k)
			row := s.below(u)
			a.lists[ofInputs][row] = s.wide()
			sameFaults(t, s.filled(t, a), [][2]int{{1, u}})
			// It stands among the sorted ones too, as the greatest one by far or not.
			b := a.cloned()
			at := s.below(u)
			b.lists[ofSorted][at] = b.lists[ofInputs][row]
			got := s.filled(t, b).broken(t)
			told := func(fault [2]int) bool { return fault[0] > 2 && fault[1] == at }
			if !slices.ContainsFunc(got, told) {
				t.Errorf("%v: %v", b, got)
			}
		}
	})
}

// One value of the product is another one: the checks that look at it tell so, in their rows, and no others do.
func TestChecksOfSpoiltProducts(t *testing.T) {
	s := stream(56)
	sizes(func(sort, k int) {
		u := 1<<k - 4
		f := s.filled(t, s.lookedUp(t, sort, k))
		for row := range 1 << k {
			spoilt := f.cloned()
			spoilt.columns[ofAll][row] = s.wide()
			var want [][2]int
			if row == 0 {
				want = append(want, [2]int{0, 0})
			}
			if row == u {
				want = append(want, [2]int{1, u})
			}
			if row < u {
				want = append(want, [2]int{2, row})
			}
			if row > 0 && row <= u {
				want = append(want, [2]int{2, row - 1})
			}
			sameFaults(t, spoilt, want)
		}
	})
}

// Another sorted input isn't what is matched nor the one ahead; where it stood first of its value, the next one has lost what it was equal to.
func TestChecksOfSpoiltOrder(t *testing.T) {
	s := stream(57)
	sizes(func(sort, k int) {
		u := 1<<k - 4
		f := s.filled(t, s.lookedUp(t, sort, k))
		for row := range u {
			spoilt := f.cloned()
			spoilt.columns[ofSorted][row] = s.wide()
			want := [][2]int{{2, row}, {4, row}}
			if row == 0 {
				want = append(want, [2]int{3, 0})
			}
			if row+1 < u && f.columns[ofSorted][row+1] != f.columns[ofMatched][row+1] {
				want = append(want, [2]int{4, row + 1})
			}
			sameFaults(t, spoilt, want)
		}
	})
}

// quotients: of each check, which is a polynomial in X, is X^n - 1 a divisor?
func (f table) quotients(t *testing.T) []bool {
	t.Helper()
	by := fieldOf(f.sort)
	var coeffs [ofAll + 1][]api.Elem
	for i, values := range f.columns {
		coeffs[i], _ = domain.Coeffs(f.sort, f.k, api.Elem{1}, values)
	}
	// Four factors of degree n - 1 at most: four times as many points are enough.
	shift, size := api.Elem{5}, f.k+2
	checks := make([][]api.Elem, 5)
	for i := range 1 << size {
		x := by.mul(big.NewInt(5), by.point(size, i))
		l := f.looked(t, elemOf(x), func(column, rot int) api.Elem {
			return poly.Eval(f.sort, coeffs[column], elemOf(by.mul(x, by.point(f.k, (rot+1<<f.k)%(1<<f.k)))))
		})
		for c, v := range l.answered() {
			checks[c] = append(checks[c], v)
		}
	}
	zeros := make([]api.Elem, 1<<f.k+1)
	zeros[0], zeros[1<<f.k] = beside(f.sort, -1, 1), api.Elem{1}
	var list []bool
	for _, values := range checks {
		whole, e := domain.Coeffs(f.sort, size, shift, values)
		_, rest, wrong := poly.Divide(f.sort, whole, zeros)
		if e != api.OK || wrong != api.OK {
			t.Fatal(e, wrong)
		}
		list = append(list, len(rest) == 0)
	}
	return list
}

// Away from the domain's points each check is a polynomial that X^n - 1 divides, just if it is 0 in all rows.
func TestChecksAsPolynomials(t *testing.T) {
	s := stream(58)
	sizes(func(sort, k int) {
		f := s.filled(t, s.lookedUp(t, sort, k))
		if got := f.quotients(t); !slices.Equal(got, []bool{true, true, true, true, true}) {
			t.Errorf("%v: %v", f.asked, got)
		}
		for column, want := range [][]bool{
			{true, true, false, true, true},
			{true, true, false, true, true},
			{true, true, false, false, false},
			{true, true, false, false, false},
			{false, true, false, true, true},
		} {
			spoilt := f.cloned()
			spoilt.columns[column][0] = s.wide()
			if got := spoilt.quotients(t); !slices.Equal(got, want) {
				t.Errorf("%v with another value in the column %d: %v, not %v", f.asked, column, got, want)
			}
		}
		spoilt := f.cloned()
		spoilt.columns[ofAll][1<<k-4] = s.wide()
		if got := spoilt.quotients(t); !slices.Equal(got, []bool{true, false, false, true, true}) {
			t.Errorf("%v: %v", f.asked, got)
		}
	})
}
