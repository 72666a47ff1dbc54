package tape

import (
	"slices"
	"testing"

	"sigil/api"
)

// P8.5

func drew(t *testing.T, c *Coins, want api.Elem, wrong api.Errno) {
	t.Helper()
	if got, e := c.Next(); got != want || e != wrong {
		t.Errorf("Next: %v %d, not %v %d", got, e, want, wrong)
	}
}

// Coins come as they stand: no field is known here by which they would be taken.
func TestCoins(t *testing.T) {
	drawn := stream(700)
	list := drawn.elems(20)
	for c := range 4 {
		list = append(list, scalarEdges(c)...)
	}
	c := Purse(list)
	for _, v := range list {
		drew(t, c, v, api.OK)
	}
	for range 3 {
		drew(t, c, api.Elem{}, api.ErrTape)
	}
}

func TestNoCoins(t *testing.T) {
	for _, list := range [][]api.Elem{nil, {}} {
		c := Purse(list)
		if c == nil {
			t.Fatal("no coins at all")
		}
		drew(t, c, api.Elem{}, api.ErrTape)
		drew(t, c, api.Elem{}, api.ErrTape)
	}
}

// A purse has no limit.
func TestManyCoins(t *testing.T) {
	list := make([]api.Elem, 3*api.MaxTape)
	for i := range list {
		list[i] = api.Elem{uint64(i)}
	}
	c := Purse(list)
	for _, v := range list {
		drew(t, c, v, api.OK)
	}
	drew(t, c, api.Elem{}, api.ErrTape)
}

func TestPursesApart(t *testing.T) {
	list := []api.Elem{{1}, {2}, greatest}
	first, second := Purse(list), Purse(list)
	for _, v := range list {
		drew(t, first, v, api.OK)
	}
	drew(t, first, api.Elem{}, api.ErrTape)
	for _, v := range list {
		drew(t, second, v, api.OK)
	}
	if !slices.Equal(list, []api.Elem{{1}, {2}, greatest}) {
		t.Errorf("the list has changed: %v", list)
	}
}
