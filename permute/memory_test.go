package permute

import (
	"slices"
	"testing"

	"sigil/api"
	"sigil/tape"
)

// given is all that Products and Checks are handed, each of their lists with more behind its length, and all of that memory.
type given struct {
	asked
	looked
	x       api.Elem
	columns [][][]api.Elem
	values  [][]api.Elem
	chunks  []api.Chunk
}

// roomy: a list with others behind its length, and all of that memory.
func roomy[T any](list []T, behind ...T) ([]T, []T) {
	all := append(slices.Clone(list), behind...)
	return all[:len(list):len(all)], all
}

func (g *given) roomyValues(list []api.Elem) []api.Elem {
	cut, all := roomy(list, slices.Repeat([]api.Elem{{1}, greatest}, 20)...)
	g.values = append(g.values, all)
	return cut
}

func (g *given) roomyColumns(list [][]api.Elem) [][]api.Elem {
	cut, all := roomy(list, make([]api.Elem, 32), nil)
	for i, values := range cut {
		cut[i] = g.roomyValues(values)
	}
	g.columns = append(g.columns, all)
	return cut
}

func givenOf(a asked, l looked, x api.Elem) *given {
	g := &given{asked: a, looked: l, x: x}
	g.asked.cols, g.asked.sigmas, g.coins = g.roomyColumns(a.cols), g.roomyColumns(a.sigmas), g.roomyValues(a.coins)
	g.looked.cols, g.looked.sigmas = g.roomyValues(l.cols), g.roomyValues(l.sigmas)
	g.looked.zs, g.chunks = roomy(l.zs, api.Chunk{}, api.Chunk{At: greatest})
	return g
}

// memory is what lies in all lists that were handed in, in memory of its own.
type memory struct {
	columns [][][]api.Elem
	values  [][]api.Elem
	chunks  []api.Chunk
}

func (g *given) copied() memory {
	m := memory{values: clonedColumns(g.values), chunks: slices.Clone(g.chunks)}
	for _, list := range g.columns {
		m.columns = append(m.columns, clonedColumns(list))
	}
	return m
}

func (g *given) isStill(m memory) bool {
	return sameColumns(g.values, m.values) && slices.Equal(g.chunks, m.chunks) && slices.EqualFunc(g.columns, m.columns, sameColumns)
}

// spoil: writes over all that was handed in.
func (g *given) spoil() {
	for _, list := range g.values {
		writeOver(list, api.Elem{77})
	}
	for _, list := range g.columns {
		writeOver(list, nil)
	}
	writeOver(g.chunks, api.Chunk{At: api.Elem{77}})
}

// writeOver: writes over a list, and over the spare room behind it.
func writeOver[T any](list []T, with T) {
	list = list[:cap(list)]
	for i := range list {
		list[i] = with
	}
}

// answer is what all calls answer.
type answer struct {
	spot   api.Spot
	zs     [][]api.Elem
	checks []api.Elem
	errors [2]api.Errno
}

func (g *given) answered() answer {
	var a answer
	a.spot, a.errors[0] = Place(g.asked.sort, g.k, g.x)
	a.zs, a.errors[1] = Products(g.asked.sort, g.k, g.asked.cols, g.asked.sigmas, g.asked.beta, g.asked.gamma, tape.Purse(g.coins))
	a.checks = g.looked.answered()
	return a
}

func (a answer) copied() answer {
	a.zs, a.checks = clonedColumns(a.zs), slices.Clone(a.checks)
	return a
}

func (a answer) same(b answer) bool {
	return a.spot == b.spot && a.errors == b.errors && sameColumns(a.zs, b.zs) && slices.Equal(a.checks, b.checks)
}

func (a answer) writeOver() {
	for _, z := range a.zs {
		writeOver(z, api.Elem{77})
	}
	writeOver(a.zs, nil)
	writeOver(a.checks, api.Elem{77})
}

// givens: ones that are answered, and ones that are refused in all ways.
func givens(look func(g *given)) {
	s := stream(50)
	sizes(func(sort, k int) {
		for columns := range 10 {
			a, l := s.any(sort, k, columns), s.looked(sort, columns)
			look(givenOf(a, l, s.elem(sort)))
			l.zs = append(l.zs, api.Chunk{})
			b := a.cloned()
			b.coins = b.coins[:len(b.coins)/2]
			look(givenOf(b, l, s.elem(sort)))
			l.sort, b.sort = 4, 4
			look(givenOf(b, l, s.elem(sort)))
			b.sort, b.k = sort, 6
			look(givenOf(b, l, s.elem(sort)))
			if columns > 0 {
				look(givenOf(a.zeroAt(columns-1, 1), s.looked(sort, columns), s.elem(sort)))
				b.k, b.sigmas = k, b.sigmas[1:]
				look(givenOf(b, l, s.elem(sort)))
			}
		}
	})
}

// P16.4

func TestMemory(t *testing.T) {
	met := map[api.Errno]int{}
	givens(func(g *given) {
		kept := g.copied()
		got := g.answered()
		met[got.errors[1]]++
		want := got.copied()
		if !g.isStill(kept) {
			t.Errorf("%v: what was handed in has changed", g.asked)
		}
		got.writeOver()
		if !g.isStill(kept) {
			t.Errorf("%v: what was answered is what was handed in", g.asked)
		}
		if again := g.answered(); !again.same(want) {
			t.Errorf("%v once the answer was written over: %v, not %v", g.asked, again, want)
		}
	})
	for _, e := range []api.Errno{api.OK, api.ErrSort, api.ErrSize, api.ErrLength, api.ErrDegenerate, api.ErrTape} {
		if met[e] == 0 {
			t.Errorf("none is refused by %d", e)
		}
	}
}

// What was answered stays as it is when what was handed in is written over, and when there are later calls.
func TestAnswersStay(t *testing.T) {
	s := stream(51)
	givens(func(g *given) {
		got := g.answered()
		want := got.copied()
		g.spoil()
		givenOf(s.any(g.asked.sort&3, 3, 4), s.looked(g.looked.sort&3, 4), g.x).answered()
		if !got.same(want) {
			t.Errorf("another answer later on: %v, not %v", got, want)
		}
	})
}

// Two answers share no memory, spare room neither.
func TestAnswersAreApart(t *testing.T) {
	givens(func(g *given) {
		a, b := g.answered(), g.answered()
		want := b.copied()
		a.writeOver()
		if !b.same(want) {
			t.Errorf("%v: two answers share memory", g.asked)
		}
	})
}

// No two products share memory: each is written over, with its spare room, and all others are as they were.
func TestProductsAreApart(t *testing.T) {
	givens(func(g *given) {
		got := g.answered()
		want := got.copied()
		for i, z := range got.zs {
			writeOver(z, api.Elem{77})
			got.zs[i] = want.zs[i]
			if !got.same(want) {
				t.Errorf("%v: the product %d shares memory", g.asked, i)
			}
			got.zs[i] = z
			copy(z, want.zs[i])
		}
	})
}

// The coins' list is as it was, and a purse of it still has those that weren't taken.
func TestCoinsThatAreLeft(t *testing.T) {
	s := stream(52)
	a := s.any(2, 4, 3)
	a.coins = s.elems(2, 9)
	kept := slices.Clone(a.coins)
	for _, sort := range []int{4, 2, 2} {
		a.sort = sort
		_, rest, _ := a.answered()
		if want := kept[map[int]int{4: 0, 2: 6}[sort]:]; !slices.Equal(rest, want) || !slices.Equal(a.coins, kept) {
			t.Errorf("%v is left, not %v", rest, want)
		}
	}
}
