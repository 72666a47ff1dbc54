package region

import "sigil/api"

// sheet: the plan's sheet, where the regions stand at those starts and the tables have room.
func (l planned) sheet(starts []int) api.Sheet {
	s := api.Sheet{
		Fixed:    make([][]api.Elem, l.Fixed),
		Advice:   make([][]api.Elem, l.Advice),
		Instance: make([][]api.Elem, l.Circuit.Instance),
		Copies:   l.copies(starts),
	}
	for i, values := range l.Plan.Instance {
		s.Instance[i] = own(values)
	}
	for _, t := range l.Tables {
		s.Fixed[t.Col] = own(t.Values)
	}
	for i, r := range l.Regions {
		for _, p := range r.Puts {
			columns := s.Advice
			if p.Kind == api.OpFixed {
				columns = s.Fixed
			}
			columns[p.Col] = put(columns[p.Col], starts[i]+p.Off, p.V)
		}
	}
	return s
}

// copies: the links, by the sheet's rows.
func (l planned) copies(starts []int) []api.Copy {
	cell := func(e api.End) api.Cell {
		if e.Region == noRegion {
			return api.Cell{Col: e.Col, Row: e.Off}
		}
		return api.Cell{Col: e.Col, Row: starts[e.Region] + e.Off}
	}
	copies := make([]api.Copy, len(l.Links))
	for i, k := range l.Links {
		copies[i] = api.Copy{A: cell(k.A), B: cell(k.B)}
	}
	return copies
}

// own: the same values in memory of their own.
func own(values []api.Elem) []api.Elem {
	return append([]api.Elem(nil), values...)
}

// put: the column with a value in a row; it grows by as many rows as it lacks.
func put(column []api.Elem, row int, v api.Elem) []api.Elem {
	for len(column) <= row {
		column = append(column, api.Elem{})
	}
	column[row] = v
	return column
}
