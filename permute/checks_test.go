package permute

import (
	"math/big"
	"slices"
	"testing"

	"sigil/api"
	"sigil/domain"
	"sigil/field"
	"sigil/poly"
)

// P16.3

func TestChecksByHand(t *testing.T) {
	l := looked{
		spot: api.Spot{X: api.Elem{4}, First: api.Elem{10}, Last: api.Elem{100}, Usable: api.Elem{1000}},
		cols: []api.Elem{{7}}, sigmas: []api.Elem{{11}}, zs: []api.Chunk{{At: api.Elem{2}, Next: api.Elem{3}, Last: api.Elem{99}}},
		beta: api.Elem{5}, gamma: api.Elem{13},
	}
	// 10 (1 - 2), 100 (4 - 2), 1000 (3 (7 + 55 + 13) - 2 (7 + 20 + 13)).
	if got := l.answered(); !slices.Equal(got, []api.Elem{{16513527}, {200}, {145000}}) {
		t.Errorf("%v", got)
	}
	// With X 0 no label counts but those of the sigmas: two columns, and one in a further chunk.
	l.spot.X = api.Elem{}
	l.cols, l.sigmas = []api.Elem{{7}, {1}, {2}}, []api.Elem{{11}, {0}, {1}}
	l.zs = append(l.zs, api.Chunk{At: api.Elem{104}, Next: api.Elem{1}, Last: api.Elem{55}})
	// 10 (1 - 2), 10 (104 - 99), 100 (104 * 104 - 104), 1000 (3 * 75 * 14 - 2 * 20 * 14), 1000 (1 * 20 - 104 * 15).
	if got := l.answered(); !slices.Equal(got, []api.Elem{{16513527}, {50}, {1071200}, {2590000}, {16513537 - 1540000}}) {
		t.Errorf("%v", got)
	}
}

// Of any numbers, by the document's words; there is no bound on how many columns there are.
func TestChecksOfAny(t *testing.T) {
	s := stream(40)
	for sort := range 4 {
		for columns := range 30 {
			for range 4 {
				s.looked(sort, columns).told(t)
			}
		}
		s.looked(sort, 1001).told(t)
	}
}

// How many checks there are: one for each chunk, one more for each, and one.
func TestChecksAreSoMany(t *testing.T) {
	s := stream(41)
	for sort := range 4 {
		for columns, want := range []int{0, 3, 3, 5, 5, 7, 7, 9, 9, 11} {
			if got := s.looked(sort, columns).answered(); len(got) != want {
				t.Errorf("of %d columns there are %d checks, not %d", columns, len(got), want)
			}
		}
	}
}

func TestChecksOfNothing(t *testing.T) {
	s := stream(42)
	for _, sort := range wrongSorts {
		for columns := range 10 {
			l := s.looked(0, columns)
			l.sort = sort
			l.empty(t)
		}
	}
	for sort := range 4 {
		// Without columns, whatever else there is.
		for _, columns := range []int{0, 1, 2, 3} {
			l := s.looked(sort, columns)
			l.cols = nil
			l.empty(t)
			l.cols, l.sigmas = []api.Elem{}, nil
			l.empty(t)
			l.sigmas = []api.Elem{}
			l.empty(t)
		}
		for columns := 1; columns < 10; columns++ {
			full := s.looked(sort, columns)
			for count := range columns + 6 {
				l := full.cloned()
				l.sigmas = s.elems(sort, count)
				if count != columns {
					l.empty(t)
				}
				l = full.cloned()
				l.cols = s.elems(sort, count)
				if count != columns {
					l.empty(t)
				}
				l = full.cloned()
				l.zs = make([]api.Chunk, count)
				if count != (columns+1)/2 {
					l.empty(t)
				}
			}
		}
	}
}

// Each is 0 in each row, if all that are tied hold one value: what is proved is accepted.
func TestChecksOfTiedCells(t *testing.T) {
	s := stream(43)
	sizes(func(sort, k int) {
		for columns := 1; columns <= 8; columns++ {
			a, copies := s.tied(t, sort, k, columns)
			zs, _, e := a.answered()
			if e != api.OK {
				t.Fatal(e)
			}
			if got := a.broken(t, zs); len(got) != 0 {
				t.Errorf("%v: %v", a, got)
			}
			i := slices.IndexFunc(copies, func(p api.Copy) bool { return p.A != p.B })
			if i < 0 {
				continue
			}
			// A value that differs is told where the last product ends, in the row behind the usable ones.
			c := copies[i].A
			a.cols[c.Col][c.Row] = elemOf(fieldOf(sort).add(big.NewInt(1), bigOf(a.cols[c.Col][c.Row])))
			zs, _, e = a.answered()
			if got := a.broken(t, zs); e != api.OK || !slices.Equal(got, [][2]int{{len(zs), 1<<k - 4}}) {
				t.Errorf("%v: %v, %d", a, got, e)
			}
		}
	})
}

// One value of a product is another one: the checks that look at it tell so, in their rows, and no others do.
func TestChecksOfSpoiltProducts(t *testing.T) {
	s := stream(44)
	sizes(func(sort, k int) {
		n, u := 1<<k, 1<<k-4
		a, _ := s.tied(t, sort, k, 5)
		zs, _, e := a.answered()
		if e != api.OK {
			t.Fatal(e)
		}
		for c := range 3 {
			for _, row := range []int{0, 1, 2, u - 1, u, u + 1, n - 1} {
				spoilt := clonedColumns(zs)
				spoilt[c][row] = elemOf(fieldOf(sort).add(big.NewInt(1), bigOf(zs[c][row])))
				var want [][2]int
				if row == 0 {
					want = append(want, [2]int{c, 0})
				}
				if row == u && c < 2 {
					want = append(want, [2]int{c + 1, 0})
				}
				if row == u && c == 2 {
					want = append(want, [2]int{3, u})
				}
				if row < u {
					want = append(want, [2]int{4 + c, row})
				}
				if row > 0 && row <= u {
					want = append(want, [2]int{4 + c, row - 1})
				}
				got := a.broken(t, spoilt)
				byPlace := func(x, y [2]int) int { return slices.Compare(x[:], y[:]) }
				slices.SortFunc(got, byPlace)
				slices.SortFunc(want, byPlace)
				if !slices.Equal(got, want) {
					t.Errorf("%v with another value in the row %d of the product %d: %v, not %v", a, row, c, got, want)
				}
			}
		}
	})
}

// A product that ends with 0 is no fault of its own: 0 too is its own square.
func TestChecksOfAnEnd(t *testing.T) {
	for sort := range 4 {
		for end, want := range []api.Elem{{}, {}, {2}, {6}} {
			l := looked{sort: sort, spot: api.Spot{Last: api.Elem{1}}, cols: []api.Elem{{}}, sigmas: []api.Elem{{}}, zs: []api.Chunk{{At: api.Elem{uint64(end)}}}}
			if got := l.answered(); len(got) != 3 || got[1] != want {
				t.Errorf("%d: %v", end, got)
			}
		}
	}
}

// polynomials: the columns' ones.
func polynomials(t *testing.T, a asked, columns [][]api.Elem) [][]api.Elem {
	t.Helper()
	var list [][]api.Elem
	for _, values := range columns {
		coeffs, e := domain.Coeffs(a.sort, a.k, api.Elem{1}, values)
		if e != api.OK {
			t.Fatal(e)
		}
		list = append(list, coeffs)
	}
	return list
}

// quotients: of each check, which is a polynomial in X, is X^n - 1 a divisor?
func quotients(t *testing.T, a asked, zs [][]api.Elem) []bool {
	t.Helper()
	cols, sigmas, products := polynomials(t, a, a.cols), polynomials(t, a, a.sigmas), polynomials(t, a, zs)
	root := elemOf(fieldOf(a.sort).point(a.k, 1))
	onward := field.Exp(a.sort, root, api.Elem{1<<a.k - 4})
	points, _ := domain.Points(a.sort, a.k+2)
	shift := api.Elem{5}
	values := make([][]api.Elem, 2*len(zs)+1)
	for _, p := range points {
		x := field.Mul(a.sort, p, shift)
		spot, _ := Place(a.sort, a.k, x)
		l := looked{sort: a.sort, spot: spot, beta: a.beta, gamma: a.gamma}
		for i := range cols {
			l.cols, l.sigmas = append(l.cols, poly.Eval(a.sort, cols[i], x)), append(l.sigmas, poly.Eval(a.sort, sigmas[i], x))
		}
		for _, z := range products {
			at := func(by api.Elem) api.Elem { return poly.Eval(a.sort, z, field.Mul(a.sort, x, by)) }
			l.zs = append(l.zs, api.Chunk{At: at(api.Elem{1}), Next: at(root), Last: at(onward)})
		}
		for i, v := range l.answered() {
			values[i] = append(values[i], v)
		}
	}
	zeros := make([]api.Elem, 1<<a.k+1)
	zeros[0], zeros[1<<a.k] = field.Int(a.sort, -1), api.Elem{1}
	var list []bool
	for _, v := range values {
		// Four factors of degree n - 1 at most: four times as many points are enough.
		coeffs, e := domain.Coeffs(a.sort, a.k+2, shift, v)
		_, rest, wrong := poly.Divide(a.sort, coeffs, zeros)
		if e != api.OK || wrong != api.OK {
			t.Fatal(e, wrong)
		}
		list = append(list, len(rest) == 0)
	}
	return list
}

// Away from the domain's points each check is a polynomial that X^n - 1 divides, just if it is 0 in all rows.
func TestChecksAsPolynomials(t *testing.T) {
	s := stream(45)
	sizes(func(sort, k int) {
		for _, columns := range []int{1, 2, 3, 5} {
			a, _ := s.tied(t, sort, k, columns)
			zs, _, e := a.answered()
			if e != api.OK {
				t.Fatal(e)
			}
			want := slices.Repeat([]bool{true}, 2*len(zs)+1)
			if got := quotients(t, a, zs); !slices.Equal(got, want) {
				t.Errorf("%v: %v", a, got)
			}
			for _, place := range a.broken(t, zs) {
				t.Errorf("%v: %v", a, place)
			}
			zs[0][1] = s.wide()
			want[len(zs)+1] = false
			if got := quotients(t, a, zs); !slices.Equal(got, want) {
				t.Errorf("%v: %v, not %v", a, got, want)
			}
		}
	})
}

// Numbers above the modulus stand for their remainders.
func TestChecksOfRemainders(t *testing.T) {
	s := stream(46)
	for sort := range 4 {
		l := s.looked(sort, 5)
		want := l.answered()
		b := l.cloned()
		for _, v := range []*api.Elem{&b.beta, &b.gamma, &b.spot.X, &b.spot.First, &b.spot.Last, &b.spot.Usable} {
			*v = lifted(sort, *v)
		}
		for i := range b.cols {
			b.cols[i], b.sigmas[i] = lifted(sort, b.cols[i]), lifted(sort, b.sigmas[i])
		}
		for i, z := range b.zs {
			b.zs[i] = api.Chunk{At: lifted(sort, z.At), Next: lifted(sort, z.Next), Last: lifted(sort, z.Last)}
		}
		if got := b.answered(); !slices.Equal(got, want) {
			t.Errorf("%v, not %v", got, want)
		}
	}
}
