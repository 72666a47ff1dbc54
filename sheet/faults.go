package sheet

import (
	"sigil/api"
	"sigil/circuit"
	"sigil/field"
)

// widest is the most inputs of a lookup.
const widest = 4

// tuple is a lookup's values in one row; what it isn't wide enough for is 0, in its inputs and its tables alike.
type tuple [widest]api.Elem

// worked is a filled circuit, and the value of each node in each usable row, in the field of a sort.
type worked struct {
	filled
	sort int
	at   [][]api.Elem
}

// workOut: the filled circuit, with its nodes' values.
func workOut(sort int, f filled) (worked, api.Errno) {
	w := worked{f, sort, make([][]api.Elem, f.usable())}
	for row := range w.at {
		values, wrong := f.values(sort, row)
		if wrong != api.OK {
			return worked{}, wrong
		}
		w.at[row] = values
	}
	return w, api.OK
}

// gateFaults: where gates aren't 0.
func (w worked) gateFaults() []api.Fault {
	var faults []api.Fault
	for i, node := range w.Gates {
		from, to := circuit.Rows(w.Circuit, w.k, node)
		for row := from; row < to; row++ {
			if w.at[row][node] != (api.Elem{}) {
				faults = append(faults, api.Fault{Kind: api.FaultGate, Index: i, Row: row})
			}
		}
	}
	return faults
}

// lookupFaults: where inputs aren't a row of their tables.
func (w worked) lookupFaults() []api.Fault {
	var faults []api.Fault
	for i, l := range w.Lookups {
		table := w.table(l)
		for row := range w.at {
			if _, there := table[w.together(l.Inputs, row)]; !there {
				faults = append(faults, api.Fault{Kind: api.FaultLookup, Index: i, Row: row})
			}
		}
	}
	return faults
}

// table: the rows of a lookup's tables.
func (w worked) table(l api.Lookup) map[tuple]struct{} {
	table := make(map[tuple]struct{})
	for row := range w.at {
		table[w.together(l.Tables, row)] = struct{}{}
	}
	return table
}

// together: the values of some nodes in a row.
func (w worked) together(nodes []int, row int) tuple {
	var t tuple
	for i, node := range nodes {
		t[i] = w.at[row][node]
	}
	return t
}

// copyFaults: which copies' cells are different. Cells hold numbers as they stand: they are held against each other as elements.
func (w worked) copyFaults() []api.Fault {
	var faults []api.Fault
	for i, p := range w.Copies {
		if field.Sub(w.sort, w.cell(p.A), w.cell(p.B)) != (api.Elem{}) {
			faults = append(faults, api.Fault{Kind: api.FaultCopy, Index: i})
		}
	}
	return faults
}
