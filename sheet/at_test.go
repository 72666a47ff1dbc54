package sheet

import (
	"math"
	"testing"

	"sigil/api"
)

// isAt: At answers that.
func isAt(t *testing.T, s api.Sheet, kind, col, row int, want api.Elem) {
	t.Helper()
	if got := At(s, kind, col, row); got != want {
		t.Errorf("At(%v, %d, %d, %d): %v, not %v", s, kind, col, row, got, want)
	}
}

// numbered: a sheet of which each value tells where it stands; its columns have 0, 1, 2 .. values.
func numbered() api.Sheet {
	var s api.Sheet
	for kind := 2; kind <= 4; kind++ {
		for col := range 2 + kind {
			values := make([]api.Elem, col)
			for row := range values {
				values[row] = api.Elem{uint64(kind), uint64(col), uint64(row), math.MaxUint64}
			}
			*columnsBy(&s, kind) = append(*columnsBy(&s, kind), values)
		}
	}
	return s
}

// P13.2

// Each value as it stands, however great it is.
func TestAt(t *testing.T) {
	s := numbered()
	for kind := -1; kind <= 10; kind++ {
		for col := -2; col <= 8; col++ {
			for row := -2; row <= 8; row++ {
				want := api.Elem{}
				if kind >= 2 && kind <= 4 && col >= 0 && col < 2+kind && row >= 0 && row < col {
					want = api.Elem{uint64(kind), uint64(col), uint64(row), math.MaxUint64}
				}
				isAt(t, s, kind, col, row, want)
			}
		}
	}
}

func TestAtOfNone(t *testing.T) {
	s := numbered()
	for kind := 2; kind <= 4; kind++ {
		isAt(t, api.Sheet{}, kind, 0, 0, api.Elem{})
		isAt(t, api.Sheet{Fixed: [][]api.Elem{{}}, Advice: [][]api.Elem{nil}, Instance: [][]api.Elem{}}, kind, 0, 0, api.Elem{})
		for _, n := range far {
			isAt(t, s, kind, n, 0, api.Elem{})
			isAt(t, s, kind, 2, n, api.Elem{})
			isAt(t, s, kind, n, n, api.Elem{})
			isAt(t, s, n, kind, 0, api.Elem{})
			isAt(t, s, n, n, n, api.Elem{})
		}
	}
	for _, kind := range []int{0, 1, 5, 6, 7, 8, 256 + 2, 1<<32 + 2, 1<<32 + 4} {
		isAt(t, s, kind, 2, 0, api.Elem{})
	}
	// What lies behind a column's or the columns' length is not there.
	behind := []api.Elem{{1}, {2}, {3}}
	columns := [][]api.Elem{behind[:2], behind}
	isAt(t, api.Sheet{Fixed: columns[:1], Advice: columns[:1], Instance: columns[:1]}, api.OpAdvice, 0, 1, api.Elem{2})
	for kind := 2; kind <= 4; kind++ {
		cut := api.Sheet{Fixed: columns[:1], Advice: columns[:1], Instance: columns[:1]}
		isAt(t, cut, kind, 0, 2, api.Elem{})
		isAt(t, cut, kind, 1, 0, api.Elem{})
	}
}

// No circuit and no size is asked for: a column may have as many values as it likes.
func TestAtOfLongColumns(t *testing.T) {
	long := make([]api.Elem, 100000)
	long[99999] = greatest
	s := api.Sheet{Instance: make([][]api.Elem, 300)}
	s.Instance[299] = long
	isAt(t, s, api.OpInstance, 299, 99999, greatest)
	isAt(t, s, api.OpInstance, 299, 99998, api.Elem{})
	isAt(t, s, api.OpInstance, 299, 100000, api.Elem{})
	isAt(t, s, api.OpAdvice, 299, 99999, api.Elem{})
}

func TestAtOfAny(t *testing.T) {
	s := stream(20)
	for i := range 300 {
		c := s.circuit(i % 4)
		sheet := s.sheet(i%4, c, 5)
		for range 300 {
			kind, col, row := 1+s.below(5), s.below(6)-1, s.below(34)-3
			isAt(t, sheet, kind, col, row, atBy(sheet, kind, col, row))
		}
	}
}
