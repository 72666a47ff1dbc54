package keys

import (
	"cmp"
	"slices"

	"sigil/api"
)

// ties is which cells are tied: each of them points to another one of its class, and so on up to the class's head, which points to itself.
type ties map[api.Cell]api.Cell

// tie: the ties of copies.
func tie(copies []api.Copy) ties {
	t := make(ties)
	for _, p := range copies {
		a, b := t.head(p.A), t.head(p.B)
		t[a], t[b] = b, b
	}
	return t
}

// head: the head of a cell's class; the cell itself, if nothing is tied with it yet.
func (t ties) head(c api.Cell) api.Cell {
	for {
		to, tied := t[c]
		if !tied || to == c {
			return c
		}
		c = to
	}
}

// classes: the cells of each class, by its head. In a class they stand in any order.
func (t ties) classes() map[api.Cell][]api.Cell {
	classes := make(map[api.Cell][]api.Cell)
	for c := range t {
		head := t.head(c)
		classes[head] = append(classes[head], c)
	}
	return classes
}

// nextOnes: the next one of each cell, where there are so many places in Equal and so many rows.
func nextOnes(places, rows int, copies []api.Copy) [][]api.Cell {
	next := ownOnes(places, rows)
	// No two classes have a cell in common, so that their order isn't to be seen.
	for _, class := range tie(copies).classes() {
		slices.SortFunc(class, inOrder)
		for i, c := range class {
			next[c.Col][c.Row] = class[(i+1)%len(class)]
		}
	}
	return next
}

// ownOnes: all cells, each its own next one.
func ownOnes(places, rows int) [][]api.Cell {
	next := make([][]api.Cell, places)
	for col := range next {
		next[col] = make([]api.Cell, rows)
		for row := range rows {
			next[col][row] = api.Cell{Col: col, Row: row}
		}
	}
	return next
}

// inOrder: which of two cells is ahead, by Col, then Row?
func inOrder(a, b api.Cell) int {
	return cmp.Or(cmp.Compare(a.Col, b.Col), cmp.Compare(a.Row, b.Row))
}
