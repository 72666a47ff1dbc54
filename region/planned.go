package region

import (
	"slices"

	"sigil/api"
	"sigil/circuit"
)

// The limits that package api doesn't name.
const (
	leastSize  = 3
	maxRegions = 64
	maxPuts    = 64 // of one region
	maxLinks   = 256
)

// noRegion is the region of an end whose row is counted from the sheet's row 0 on.
const noRegion = -1

// planned is a right circuit, and a plan that is right for it with so many usable rows.
type planned struct {
	api.Circuit
	api.Plan
	usable int
}

// lookAt: the circuit and its plan, looked at; or why they aren't right.
func lookAt(c api.Circuit, k int, p api.Plan) (planned, api.Errno) {
	if wrong := circuit.Check(c); wrong != api.OK {
		return planned{}, wrong
	}
	if k < leastSize || k > api.MaxK {
		return planned{}, api.ErrSize
	}
	l := planned{c, p, circuit.Usable(k)}
	if !l.isRight() {
		return planned{}, api.ErrRegion
	}
	return l, api.OK
}

// isRight: is the plan right? The tables come ahead of the regions, so that each put is held against few of them only.
func (l planned) isRight() bool {
	return l.tablesFit() && l.regionsFit() && l.linksFit() && l.instanceFits()
}

func (l planned) tablesFit() bool {
	met := make(map[int]struct{})
	return every(l.Tables, func(t api.Table) bool {
		_, again := met[t.Col]
		met[t.Col] = struct{}{}
		return !again && isWithin(t.Col, l.Fixed)
	})
}

func (l planned) regionsFit() bool {
	return len(l.Regions) <= maxRegions && every(l.Regions, func(r api.Region) bool {
		return r.Rows >= 1 && l.putsFit(r)
	})
}

func (l planned) putsFit(r api.Region) bool {
	met := make(map[api.Put]struct{})
	return len(r.Puts) <= maxPuts && every(r.Puts, func(p api.Put) bool {
		place := api.Put{Kind: p.Kind, Col: p.Col, Off: p.Off}
		_, again := met[place]
		met[place] = struct{}{}
		return !again && l.takesPuts(columnOf(p)) && isWithin(p.Off, r.Rows)
	})
}

// takesPuts: may regions have values in the column?
func (l planned) takesPuts(c api.Column) bool {
	switch c.Kind {
	case api.OpFixed:
		return isWithin(c.Col, l.Fixed) && !slices.ContainsFunc(l.Tables, func(t api.Table) bool { return t.Col == c.Col })
	case api.OpAdvice:
		return isWithin(c.Col, l.Advice)
	}
	return false
}

func (l planned) linksFit() bool {
	return len(l.Links) <= maxLinks && every(l.Links, func(k api.Link) bool {
		return l.endFits(k.A) && l.endFits(k.B)
	})
}

func (l planned) endFits(e api.End) bool {
	if !isWithin(e.Col, len(l.Equal)) {
		return false
	}
	if e.Region == noRegion {
		return isWithin(e.Off, l.usable)
	}
	return isWithin(e.Region, len(l.Regions)) && l.Equal[e.Col].Kind != api.OpInstance && isWithin(e.Off, l.Regions[e.Region].Rows)
}

func (l planned) instanceFits() bool {
	return len(l.Plan.Instance) == l.Circuit.Instance && every(l.Plan.Instance, func(values []api.Elem) bool {
		return len(values) <= l.usable
	})
}

// tablesHaveRoom: are there as many usable rows as each table has values?
func (l planned) tablesHaveRoom() bool {
	return every(l.Tables, func(t api.Table) bool { return len(t.Values) <= l.usable })
}

// columnOf: the column of a put.
func columnOf(p api.Put) api.Column { return api.Column{Kind: p.Kind, Col: p.Col} }

// isWithin: is a number one of 0 to so many less 1?
func isWithin(n, many int) bool { return n >= 0 && n < many }

// every: does something hold of every one in a list?
func every[T any](list []T, holds func(one T) bool) bool {
	for _, one := range list {
		if !holds(one) {
			return false
		}
	}
	return true
}
