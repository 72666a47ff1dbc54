package permute

import (
	"fmt"
	"math/big"
	"slices"
	"testing"

	"sigil/api"
	"sigil/keys"
	"sigil/tape"
)

// asked is what Products is handed, the coins as a list.
type asked struct {
	sort, k      int
	cols, sigmas [][]api.Elem
	beta, gamma  api.Elem
	coins        []api.Elem
}

func (a asked) answered() ([][]api.Elem, []api.Elem, api.Errno) {
	c := tape.Purse(a.coins)
	zs, e := Products(a.sort, a.k, a.cols, a.sigmas, a.beta, a.gamma, c)
	return zs, left(c), e
}

func (a asked) String() string {
	return fmt.Sprintf("sort %d, size %d, %d columns, %d sigmas, beta %v, gamma %v, %d coins", a.sort, a.k, len(a.cols), len(a.sigmas), a.beta, a.gamma, len(a.coins))
}

// joined: value + beta label + gamma.
func (a asked) joined(value api.Elem, label *big.Int) *big.Int {
	f := fieldOf(a.sort)
	return f.add(f.of(value), f.mul(f.of(a.beta), label), f.of(a.gamma))
}

// isFull: are there as many sigmas as cols, no more than 8, and all of n values?
func (a asked) isFull() bool {
	short := func(values []api.Elem) bool { return len(values) != 1<<a.k }
	return len(a.cols) == len(a.sigmas) && len(a.cols) <= 8 && !slices.ContainsFunc(a.cols, short) && !slices.ContainsFunc(a.sigmas, short)
}

// by: what Products answers, how many coins it takes, and its error, by the document's words, factor by factor.
func (a asked) by() (zs [][]api.Elem, taken int, wrong api.Errno) {
	switch {
	case a.sort < 0 || a.sort > 3:
		return nil, 0, api.ErrSort
	case a.k < 3 || a.k > 5:
		return nil, 0, api.ErrSize
	case !a.isFull():
		return nil, 0, api.ErrLength
	}
	f, last := fieldOf(a.sort), 1<<a.k-4
	z := big.NewInt(1)
	for from := 0; from < len(a.cols); from += 2 {
		values := []api.Elem{elemOf(z)}
		for r := range last {
			for i := from; i < len(a.cols) && i < from+2; i++ {
				divisor := a.joined(a.cols[i][r], f.of(a.sigmas[i][r]))
				if divisor.Sign() == 0 {
					return nil, taken, api.ErrDegenerate
				}
				z = f.by(f.mul(z, a.joined(a.cols[i][r], f.label(a.k, i, r))), divisor)
			}
			values = append(values, elemOf(z))
		}
		for range 3 {
			if taken == len(a.coins) {
				return nil, taken, api.ErrTape
			}
			values = append(values, elemOf(f.of(a.coins[taken])))
			taken++
		}
		zs = append(zs, values)
	}
	return zs, taken, api.OK
}

// told: Products answers what the document's words say, and takes as many coins; with an error it answers nothing else.
func (a asked) told(t *testing.T) {
	t.Helper()
	want, taken, wrong := a.by()
	zs, rest, e := a.answered()
	if e != wrong || !sameColumns(zs, want) {
		t.Errorf("Products of %v: %v, %d, not %v, %d", a, zs, e, want, wrong)
	}
	if !slices.Equal(rest, a.coins[taken:]) {
		t.Errorf("Products of %v takes %d coins, not %d", a, len(a.coins)-len(rest), taken)
	}
}

// refused: Products answers that error alone, and takes so many coins.
func (a asked) refused(t *testing.T, taken int, wrong api.Errno) {
	t.Helper()
	zs, rest, e := a.answered()
	if e != wrong || len(zs) != 0 || !slices.Equal(rest, a.coins[taken:]) {
		t.Errorf("Products of %v: %v, %d, with %d coins taken, not %d, %d", a, zs, e, len(a.coins)-len(rest), wrong, taken)
	}
}

func (a asked) cloned() asked {
	a.cols, a.sigmas, a.coins = clonedColumns(a.cols), clonedColumns(a.sigmas), slices.Clone(a.coins)
	return a
}

// any: columns and labels of any numbers, with a few coins more than are taken. By such challenges hardly any divisor is 0.
func (s *stream) any(sort, k, columns int) asked {
	return asked{
		sort: sort, k: k, cols: s.columns(sort, columns, 1<<k), sigmas: s.columns(sort, columns, 1<<k),
		beta: s.wide(), gamma: s.wide(), coins: s.elems(sort, 3*((columns+1)/2)+s.below(3)),
	}
}

// zeroAt: the divisor of a column and a row is made 0, by one of several numbers that stand for one element.
func (a asked) zeroAt(column, row int) asked {
	a = a.cloned()
	f := fieldOf(a.sort)
	a.cols[column][row] = elemOf(f.sub(new(big.Int), a.joined(api.Elem{}, f.of(a.sigmas[column][row]))))
	if row%2 == 0 {
		a.cols[column][row] = lifted(a.sort, a.cols[column][row])
	}
	return a
}

// tied: columns of which cells are tied that hold one value each, labels of layer 15, and what is copied.
func (s *stream) tied(t *testing.T, sort, k, columns int) (asked, []api.Copy) {
	t.Helper()
	a := s.any(sort, k, columns)
	c := api.Circuit{Advice: columns}
	for i := range columns {
		c.Equal = append(c.Equal, api.Column{Kind: api.OpAdvice, Col: i})
	}
	one := func() api.Cell { return api.Cell{Col: s.below(columns), Row: s.below(1<<k - 4)} }
	var copies []api.Copy
	for range 1 + s.below(4*columns) {
		copies = append(copies, api.Copy{A: one(), B: one()})
	}
	// The least value comes through to all that are tied with its cell, if it takes as many turns as there are copies.
	for range copies {
		for _, p := range copies {
			x, y := &a.cols[p.A.Col][p.A.Row], &a.cols[p.B.Col][p.B.Row]
			if bigOf(*x).Cmp(bigOf(*y)) < 0 {
				*y = *x
			} else {
				*x = *y
			}
		}
	}
	_, sigmas, e := keys.Columns(sort, c, k, api.Sheet{Advice: make([][]api.Elem, columns), Copies: copies})
	if e != api.OK {
		t.Fatal(e)
	}
	a.sigmas = sigmas
	return a, copies
}
