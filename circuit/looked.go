package circuit

import (
	"sigil/api"
	"sigil/expr"
)

// The limits that package api doesn't name.
const (
	maxGates   = 16
	maxLookups = 4
	maxInputs  = 4 // of one lookup, and as many tables
	maxEqual   = 8

	leastSize    = 2
	greatestSize = 30
	unusable     = 4 // the row u, and the three behind it

	leastDegree = 3
	tiedDegree  = 4 // the least one where there are products over the rows: of lookups, or of columns that may be copied
)

// looked is a circuit that is looked at, and its nodes' degrees.
type looked struct {
	api.Circuit
	degrees []int
}

// lookAt: the circuit, looked at; or why it isn't right.
func lookAt(c api.Circuit) (looked, api.Errno) {
	if expr.Check(c.Nodes, c.Fixed, c.Advice, c.Instance) != api.OK {
		return looked{}, api.ErrNode
	}
	l := looked{c, expr.Degrees(c.Nodes)}
	if !l.isRight() {
		return looked{}, api.ErrCircuit
	}
	return l, api.OK
}

// isRight: is all right beside the nodes? The degree comes last, for it needs places that are nodes'.
func (l looked) isRight() bool {
	return l.columnsFit() && l.gatesFit() && l.lookupsFit() && l.equalFit() && l.degree() <= api.MaxDegree
}

func (l looked) columnsFit() bool {
	return l.Advice != 0 && every([]int{l.Fixed, l.Advice, l.Instance}, func(columns int) bool {
		return columns >= 0 && columns <= api.MaxColumns
	})
}

func (l looked) gatesFit() bool {
	return len(l.Gates) <= maxGates && every(l.Gates, l.isPlace)
}

func (l looked) lookupsFit() bool {
	inOneRow := func(place int) bool { return l.isPlace(place) && l.staysInRow(place) }
	return len(l.Lookups) <= maxLookups && every(l.Lookups, func(k api.Lookup) bool {
		n := len(k.Inputs)
		return n >= 1 && n <= maxInputs && len(k.Tables) == n && every(k.Inputs, inOneRow) && every(k.Tables, inOneRow)
	})
}

func (l looked) equalFit() bool {
	columns := map[int]int{api.OpFixed: l.Fixed, api.OpAdvice: l.Advice, api.OpInstance: l.Instance}
	met := make(map[api.Column]struct{})
	return len(l.Equal) <= maxEqual && every(l.Equal, func(e api.Column) bool {
		_, again := met[e]
		met[e] = struct{}{}
		return !again && e.Col >= 0 && e.Col < columns[e.Kind]
	})
}

// isPlace: is it a node's place?
func (l looked) isPlace(place int) bool { return place >= 0 && place < len(l.Nodes) }

// rots: what is done with the rows that each query of a node's cone goes on.
func (l looked) rots(node int, do func(rot int)) {
	for _, place := range expr.Cone(l.Nodes, node) {
		switch n := l.Nodes[place]; n.Op {
		case api.OpFixed, api.OpAdvice, api.OpInstance:
			do(n.B)
		}
	}
}

// staysInRow: has a node no query of another row?
func (l looked) staysInRow(node int) bool {
	others := 0
	l.rots(node, func(rot int) {
		if rot != 0 {
			others++
		}
	})
	return others == 0
}

// reach: how many rows a node's queries go back at most, and how many on; neither is below 0, for rows begin with 0 and end with the last usable one.
func (l looked) reach(node int) (back, on int) {
	l.rots(node, func(rot int) {
		back = max(back, -rot)
		on = max(on, rot)
	})
	return back, on
}

// degree: the circuit's degree, where all places are nodes'.
func (l looked) degree() int {
	degree := leastDegree
	raise := func(to int) { degree = max(degree, to) }
	if len(l.Lookups) > 0 || len(l.Equal) > 0 {
		raise(tiedDegree)
	}
	raise(l.greatest(l.Gates) + 1)
	for _, k := range l.Lookups {
		raise(2 + l.greatest(k.Inputs) + l.greatest(k.Tables))
	}
	return degree
}

// greatest: the greatest degree of some nodes; 0 where there are none.
func (l looked) greatest(places []int) int {
	greatest := 0
	for _, place := range places {
		greatest = max(greatest, l.degrees[place])
	}
	return greatest
}

// every: does something hold of every one in a list?
func every[T any](list []T, holds func(one T) bool) bool {
	for _, one := range list {
		if !holds(one) {
			return false
		}
	}
	return true
}
