package lookup

import (
	"fmt"
	"math/big"
	"slices"
	"testing"

	"sigil/api"
	"sigil/tape"
)

// The lists that Product is handed, in its order.
const (
	ofInputs = iota
	ofTables
	ofSorted
	ofMatched
	ofAll
)

// asked is what Product is handed, the coins as a list.
type asked struct {
	sort, k     int
	lists       [ofAll][]api.Elem
	beta, gamma api.Elem
	coins       []api.Elem
}

func (a asked) by(c *tape.Coins) ([]api.Elem, api.Errno) {
	return Product(a.sort, a.k, a.lists[ofInputs], a.lists[ofTables], a.lists[ofSorted], a.lists[ofMatched], a.beta, a.gamma, c)
}

func (a asked) answered() ([]api.Elem, []api.Elem, api.Errno) {
	c := tape.Purse(a.coins)
	z, e := a.by(c)
	return z, left(c), e
}

func (a asked) String() string {
	return fmt.Sprintf("sort %d, size %d, %v, beta %v, gamma %v, %d coins", a.sort, a.k, a.lists, a.beta, a.gamma, len(a.coins))
}

// factor: one of a list in a row, with its challenge.
func (a asked) factor(list, row int) *big.Int {
	f := fieldOf(a.sort)
	return f.add(f.of(a.lists[list][row]), f.of(a.challenge(list)))
}

// challenge: by which a list's values are told apart.
func (a asked) challenge(list int) api.Elem {
	if list == ofInputs || list == ofSorted {
		return a.beta
	}
	return a.gamma
}

// byWords: what Product answers, how many coins it takes, and its error, by the document's words, factor by factor.
func (a asked) byWords() (z []api.Elem, taken int, wrong api.Errno) {
	switch {
	case a.sort < 0 || a.sort > 3:
		return nil, 0, api.ErrSort
	case a.k < 3 || a.k > 5:
		return nil, 0, api.ErrSize
	}
	f, u := fieldOf(a.sort), 1<<a.k-4
	for _, list := range a.lists {
		if len(list) != u {
			return nil, 0, api.ErrLength
		}
	}
	at := big.NewInt(1)
	z = append(z, elemOf(at))
	for r := range u {
		for list := range 2 {
			divisor := a.factor(list+ofSorted, r)
			if divisor.Sign() == 0 {
				return nil, 0, api.ErrDegenerate
			}
			at = f.by(f.mul(at, a.factor(list, r)), divisor)
		}
		z = append(z, elemOf(at))
	}
	for range 3 {
		if taken == len(a.coins) {
			return nil, taken, api.ErrTape
		}
		z = append(z, elemOf(f.of(a.coins[taken])))
		taken++
	}
	return z, taken, api.OK
}

// told: Product answers what the document's words say, and takes as many coins; with an error it answers nothing else.
func (a asked) told(t *testing.T) api.Errno {
	t.Helper()
	want, taken, wrong := a.byWords()
	z, rest, e := a.answered()
	if e != wrong || !slices.Equal(z, want) {
		t.Errorf("Product of %v: %v, %d, not %v, %d", a, z, e, want, wrong)
	}
	if !slices.Equal(rest, a.coins[taken:]) {
		t.Errorf("Product of %v takes %d coins, not %d", a, len(a.coins)-len(rest), taken)
	}
	return e
}

// refused: Product answers that error alone, and takes so many coins.
func (a asked) refused(t *testing.T, taken int, wrong api.Errno) {
	t.Helper()
	z, rest, e := a.answered()
	if e != wrong || len(z) != 0 || !slices.Equal(rest, a.coins[taken:]) {
		t.Errorf("Product of %v: %v, %d, with %d coins taken, not %d, %d", a, z, e, len(a.coins)-len(rest), wrong, taken)
	}
}

func (a asked) cloned() asked {
	for i, list := range a.lists {
		a.lists[i] = slices.Clone(list)
	}
	a.coins = slices.Clone(a.coins)
	return a
}

// zeroAt: the factor of a list and a row is made 0, by one of several numbers that stand for one element.
func (a asked) zeroAt(list, row int) asked {
	a = a.cloned()
	f := fieldOf(a.sort)
	v := elemOf(f.sub(new(big.Int), f.of(a.challenge(list))))
	if row%2 == 0 {
		v = lifted(a.sort, v)
	}
	a.lists[list][row] = v
	return a
}

// any: lists of any numbers, with a few coins more than are taken. By such challenges hardly any divisor is 0.
func (s *stream) any(sort, k int) asked {
	a := asked{sort: sort, k: k, beta: s.wide(), gamma: s.wide(), coins: s.elems(sort, 3+s.below(3))}
	for i := range a.lists {
		a.lists[i] = s.elems(sort, max(0, 1<<k-4))
	}
	return a
}

// lookedUp: inputs that are all of the tables, both as they stand and as Permute puts them.
func (s *stream) lookedUp(t *testing.T, sort, k int) asked {
	t.Helper()
	a := s.any(sort, k)
	u := 1<<k - 4
	a.lists[ofInputs], a.lists[ofTables] = s.found(sort, u, 1+s.below(u))
	var e api.Errno
	a.lists[ofSorted], a.lists[ofMatched], e = Permute(sort, a.lists[ofInputs], a.lists[ofTables])
	if e != api.OK {
		t.Fatal(e)
	}
	return a
}
