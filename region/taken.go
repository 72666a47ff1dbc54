package region

import "sigil/api"

// taken is which rows regions have in each column that they use: a bit a row, the least one row 0's. There are fewer usable rows than bits.
type taken map[api.Column]uint64

// starts: where each region stands by first fit; false, if one has no place.
func (l planned) starts() ([]int, bool) {
	rows := make(taken)
	starts := make([]int, len(l.Regions))
	for i, r := range l.Regions {
		start, found := rows.firstFit(r, l.usable)
		if !found {
			return nil, false
		}
		rows.take(r, start)
		starts[i] = start
	}
	return starts, true
}

// firstFit: the least row from which on the region's rows are usable, and free in all of its columns; false, if there is none.
func (t taken) firstFit(r api.Region, usable int) (int, bool) {
	free := func(start int) bool {
		return every(r.Puts, func(p api.Put) bool { return t[columnOf(p)]&rowBits(start, r.Rows) == 0 })
	}
	// The sum can't wrap: rows that are too many are found out at row 0.
	for start := 0; start+r.Rows <= usable; start++ {
		if free(start) {
			return start, true
		}
	}
	return 0, false
}

// take: the region stands there from now on.
func (t taken) take(r api.Region, start int) {
	for _, p := range r.Puts {
		t[columnOf(p)] |= rowBits(start, r.Rows)
	}
}

// rowBits: the bits of so many rows from a start on.
func rowBits(start, rows int) uint64 { return (uint64(1)<<rows - 1) << start }
