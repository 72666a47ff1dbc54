package keys

import (
	"slices"
	"testing"

	"sigil/api"
)

// nexted: Next answers that; with an error nothing else.
func nexted(t *testing.T, c api.Circuit, k int, s api.Sheet, want [][]api.Cell, wrong api.Errno) {
	t.Helper()
	got, e := Next(c, k, s)
	if e != wrong || !sameCells(got, want) {
		t.Errorf("Next(%v, %d, %v): %v, %d, not %v, %d", c, k, s.Copies, got, e, want, wrong)
	}
}

// refused: Next, Columns and Make answer an error, and nothing else.
func refused(t *testing.T, c api.Circuit, k int, s api.Sheet, wrong api.Errno) {
	t.Helper()
	nexted(t, c, k, s, nil, wrong)
	for sort := range 4 {
		if fixed, sigma, e := Columns(sort, c, k, s); e != wrong || len(fixed) != 0 || len(sigma) != 0 {
			t.Errorf("Columns(%d, %v, %d, %v): %v, %v, %d, not %d", sort, c, k, s, fixed, sigma, e, wrong)
		}
		if k < 0 || k > 5 {
			continue
		}
		if v, e := Make(setup(sort, k), c, s); e != wrong || !isNothing(v) {
			t.Errorf("Make(%d, %d, .., %v, %v): %s, %d, not %d", sort, k, c, s, show(v), e, wrong)
		}
	}
}

// two: a circuit with two places in Equal, and a sheet with copies.
func two(copies ...api.Copy) (api.Circuit, api.Sheet) {
	c := api.Circuit{Advice: 2, Equal: []api.Column{{Kind: api.OpAdvice, Col: 1}, {Kind: api.OpAdvice}}}
	return c, api.Sheet{Advice: make([][]api.Elem, 2), Copies: copies}
}

// ownBy: so many places' cells of a size, each its own next one.
func ownBy(places, k int) [][]api.Cell {
	var list [][]api.Cell
	for col := range places {
		var cells []api.Cell
		for row := range 1 << k {
			cells = append(cells, at(col, row))
		}
		list = append(list, cells)
	}
	return list
}

// P15.1

// The document's own example: two columns in Equal, and one copy.
func TestNextOfTheExample(t *testing.T) {
	for k := 3; k <= 5; k++ {
		for _, p := range []api.Copy{{A: at(0, 1), B: at(1, 2)}, {A: at(1, 2), B: at(0, 1)}} {
			c, s := two(p)
			want := ownBy(2, k)
			want[0][1], want[1][2] = at(1, 2), at(0, 1)
			nexted(t, c, k, s, want, api.OK)
		}
	}
}

func TestNextWithoutCopies(t *testing.T) {
	for k := 3; k <= 5; k++ {
		c, s := two()
		nexted(t, c, k, s, ownBy(2, k), api.OK)
		c, s = least()
		nexted(t, c, k, s, nil, api.OK)
		c, s = full()
		s.Copies = []api.Copy{}
		nexted(t, c, k, s, ownBy(4, k), api.OK)
	}
}

// A copy of a cell with itself ties it with nothing; one that is there twice, or the other way round, ties once.
func TestNextOfIdleCopies(t *testing.T) {
	c, s := two(api.Copy{A: at(1, 3), B: at(1, 3)}, api.Copy{A: at(0, 0), B: at(0, 0)})
	nexted(t, c, 3, s, ownBy(2, 3), api.OK)
	p := api.Copy{A: at(0, 3), B: at(0, 1)}
	c, s = two(api.Copy{A: at(0, 3), B: at(0, 3)}, p, p, api.Copy{A: p.B, B: p.A}, api.Copy{A: at(0, 1), B: at(0, 1)})
	want := ownBy(2, 3)
	want[0][3], want[0][1] = at(0, 1), at(0, 3)
	nexted(t, c, 3, s, want, api.OK)
}

// orders: each order of a list's items.
func orders[T any](list []T, look func(list []T)) {
	var swap func(from int)
	swap = func(from int) {
		if from == len(list) {
			look(list)
		}
		for i := from; i < len(list); i++ {
			list[from], list[i] = list[i], list[from]
			swap(from + 1)
			list[from], list[i] = list[i], list[from]
		}
	}
	swap(0)
}

// However cells are tied, by a chain, a star or a ring, and in whatever order, their next ones are the same.
func TestNextOfClasses(t *testing.T) {
	want := ownBy(2, 3)
	want[0][0], want[0][3], want[1][0], want[1][2] = at(0, 3), at(1, 0), at(1, 2), at(0, 0)
	want[0][1], want[1][3] = at(1, 3), at(0, 1)
	other := api.Copy{A: at(1, 3), B: at(0, 1)}
	orders([]api.Cell{at(0, 0), at(0, 3), at(1, 0), at(1, 2)}, func(cells []api.Cell) {
		a, b, c, d := cells[0], cells[1], cells[2], cells[3]
		for _, copies := range [][]api.Copy{
			{{A: a, B: b}, {A: b, B: c}, {A: c, B: d}},
			{{A: a, B: b}, {A: a, B: c}, {A: a, B: d}},
			{{A: b, B: a}, {A: c, B: a}, {A: d, B: a}},
			{{A: a, B: b}, {A: c, B: d}, {A: a, B: d}},
			{{A: a, B: b}, {A: c, B: d}, {A: d, B: b}},
			{{A: a, B: b}, {A: b, B: c}, {A: c, B: d}, {A: d, B: a}},
		} {
			for i := range len(copies) + 1 {
				circuit, sheet := two(slices.Insert(slices.Clone(copies), i, other)...)
				nexted(t, circuit, 3, sheet, want, api.OK)
			}
		}
	})
}

// Order is by Col ahead of Row, also where the class is the greatest one that there may be.
func TestNextOfTheGreatest(t *testing.T) {
	c, s := greatestOne()
	want := ownBy(8, 5)
	for col := range 8 {
		for row := range 27 {
			want[col][row] = at(col, row+1)
		}
		want[col][27] = at((col+1)%8, 0)
	}
	// The last cell but one of the chain is the last one that is tied.
	want[6][27], want[7][26], want[7][27] = at(7, 0), at(0, 0), at(7, 27)
	nexted(t, c, 5, s, want, api.OK)
	slices.Reverse(s.Copies)
	for range 20 {
		nexted(t, c, 5, s, want, api.OK)
	}
}

// The rows that aren't usable are their own next ones; a copy may be of the last usable one.
func TestNextOfRowsThatAreNotUsable(t *testing.T) {
	for k := 3; k <= 5; k++ {
		usable := 1<<k - 4
		c, s := two(api.Copy{A: at(0, usable-1), B: at(1, usable-1)})
		want := ownBy(2, k)
		want[0][usable-1], want[1][usable-1] = at(1, usable-1), at(0, usable-1)
		nexted(t, c, k, s, want, api.OK)
		for _, p := range []api.Copy{{A: at(0, usable)}, {B: at(1, usable)}, {A: at(0, usable), B: at(0, usable)}, {A: at(2, 0)}, {B: at(-1, 0)}, {A: at(0, -1)}} {
			c, s = two(p)
			refused(t, c, k, s, api.ErrSheet)
		}
	}
}

// Fit's errors, in Fit's order.
func TestNextRefuses(t *testing.T) {
	c, s := full()
	for _, k := range wrongSizes {
		refused(t, c, k, s, api.ErrSize)
		refused(t, c, k, api.Sheet{}, api.ErrSize)
	}
	for k := 3; k <= 5; k++ {
		refused(t, c, k, api.Sheet{}, api.ErrSheet)
	}
	s.Copies[4].B.Row = 4
	refused(t, c, 3, s, api.ErrSheet)
	s.Copies[4].B.Row = 3
	s.Copies = slices.Repeat(s.Copies, 60)
	refused(t, c, 3, s, api.ErrSheet)
	c.Gates[0] = 10
	refused(t, c, 3, s, api.ErrCircuit)
	refused(t, c, 6, s, api.ErrCircuit)
	refused(t, c, 2, api.Sheet{}, api.ErrCircuit)
	c.Nodes[1].B = 4
	refused(t, c, 3, s, api.ErrNode)
	refused(t, c, 2, s, api.ErrNode)
	refused(t, api.Circuit{}, 9, s, api.ErrCircuit)
}

// Any circuits and sheets, right ones and wrong ones, by the document's words.
func TestNextOfAny(t *testing.T) {
	sheets(10, 600, func(_ int, c api.Circuit, k int, s api.Sheet) {
		want, wrong := nextBy(c, k, s)
		nexted(t, c, k, s, want, wrong)
	})
}

// The order of the copies, and of their ends, isn't to be seen.
func TestNextInAnyOrder(t *testing.T) {
	order := stream(11)
	sheets(12, 150, func(_ int, c api.Circuit, k int, s api.Sheet) {
		want, wrong := Next(c, k, s)
		for i := range s.Copies {
			j := i + order.below(len(s.Copies)-i)
			s.Copies[i], s.Copies[j] = s.Copies[j], s.Copies[i]
			if order.below(2) == 0 {
				s.Copies[i].A, s.Copies[i].B = s.Copies[i].B, s.Copies[i].A
			}
		}
		nexted(t, c, k, s, want, wrong)
	})
}
