package permute

import (
	"math/big"
	"slices"
	"testing"

	"sigil/api"
)

// looked is what Checks is handed.
type looked struct {
	sort         int
	spot         api.Spot
	cols, sigmas []api.Elem
	zs           []api.Chunk
	beta, gamma  api.Elem
}

func (l looked) answered() []api.Elem {
	return Checks(l.sort, l.spot, l.cols, l.sigmas, l.zs, l.beta, l.gamma)
}

// by: what Checks answers, by the document's words.
func (l looked) by() []api.Elem {
	if l.sort < 0 || l.sort > 3 || len(l.cols) == 0 || len(l.cols) != len(l.sigmas) || len(l.zs) != (len(l.cols)+1)/2 {
		return nil
	}
	f := fieldOf(l.sort)
	var list []api.Elem
	add := func(times api.Elem, v *big.Int) { list = append(list, elemOf(f.mul(f.of(times), v))) }
	add(l.spot.First, f.sub(big.NewInt(1), f.of(l.zs[0].At)))
	for i := 1; i < len(l.zs); i++ {
		add(l.spot.First, f.sub(f.of(l.zs[i].At), f.of(l.zs[i-1].Last)))
	}
	a := f.of(l.zs[len(l.zs)-1].At)
	add(l.spot.Last, f.sub(f.mul(a, a), a))
	for c, z := range l.zs {
		next, at := f.of(z.Next), f.of(z.At)
		for i := 2 * c; i < len(l.cols) && i < 2*c+2; i++ {
			v, beta, gamma := f.of(l.cols[i]), f.of(l.beta), f.of(l.gamma)
			next = f.mul(next, f.add(v, f.mul(beta, f.of(l.sigmas[i])), gamma))
			at = f.mul(at, f.add(v, f.mul(beta, f.start(i), f.of(l.spot.X)), gamma))
		}
		add(l.spot.Usable, f.sub(next, at))
	}
	return list
}

// told: Checks answers what the document's words say.
func (l looked) told(t *testing.T) {
	t.Helper()
	if got, want := l.answered(), l.by(); !slices.Equal(got, want) {
		t.Errorf("Checks of %v: %v, not %v", l, got, want)
	}
}

// empty: Checks answers nothing.
func (l looked) empty(t *testing.T) {
	t.Helper()
	if got := l.answered(); len(got) != 0 {
		t.Errorf("Checks of %v: %v", l, got)
	}
}

func (l looked) cloned() looked {
	l.cols, l.sigmas, l.zs = slices.Clone(l.cols), slices.Clone(l.sigmas), slices.Clone(l.zs)
	return l
}

// looked: what Checks may be handed of so many columns, of any numbers.
func (s *stream) looked(sort, columns int) looked {
	l := looked{
		sort: sort, spot: api.Spot{X: s.elem(sort), First: s.elem(sort), Last: s.elem(sort), Usable: s.elem(sort)},
		cols: s.elems(sort, columns), sigmas: s.elems(sort, columns), beta: s.elem(sort), gamma: s.elem(sort),
	}
	for range (columns + 1) / 2 {
		l.zs = append(l.zs, api.Chunk{At: s.elem(sort), Next: s.elem(sort), Last: s.elem(sort)})
	}
	return l
}

// lookedAt: how the columns, the labels and the products look at the point of a row.
func (a asked) lookedAt(t *testing.T, zs [][]api.Elem, row int) looked {
	t.Helper()
	n := 1 << a.k
	spot, e := Place(a.sort, a.k, elemOf(fieldOf(a.sort).point(a.k, row)))
	if e != api.OK {
		t.Fatal(e)
	}
	l := looked{sort: a.sort, spot: spot, beta: a.beta, gamma: a.gamma}
	for i := range a.cols {
		l.cols, l.sigmas = append(l.cols, a.cols[i][row]), append(l.sigmas, a.sigmas[i][row])
	}
	for _, z := range zs {
		l.zs = append(l.zs, api.Chunk{At: z[row], Next: z[(row+1)%n], Last: z[(row+n-4)%n]})
	}
	return l
}

// broken: the checks that aren't 0, each with the row at whose point it isn't: {check, row}.
func (a asked) broken(t *testing.T, zs [][]api.Elem) [][2]int {
	t.Helper()
	var list [][2]int
	for row := range 1 << a.k {
		l := a.lookedAt(t, zs, row)
		l.told(t)
		all := l.answered()
		if len(all) != 2*len(zs)+1 {
			t.Fatalf("%v: %d checks", a, len(all))
		}
		for i, v := range all {
			if v != (api.Elem{}) {
				list = append(list, [2]int{i, row})
			}
		}
	}
	return list
}
