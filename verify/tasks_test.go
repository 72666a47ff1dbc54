package verify

import (
	"sigil/api"
	"sigil/params"
	"sigil/sample"
)

// made: parameters that Setup doesn't refuse.
func made(c, k int) api.Params {
	p, e := params.Setup(c, k, []byte("seed"))
	if e != api.OK {
		panic(e)
	}
	return p
}

// taskOf: a task of a circuit and a sheet, with a tape and coins that are just enough.
func (s *stream) taskOf(curve, k int, c api.Circuit, filled api.Sheet) task {
	o := task{params: made(curve, k), circuit: c, sheet: filled}
	o.coins = s.elems(o.coinsFor())
	o.src = api.Source{Mode: api.FromTape, Tape: s.elems(o.challengesFor())}
	return o
}

// shapes: tasks of which one each is special in its circuit.
func (s *stream) shapes(curve, k int, look func(o task)) {
	sample.Shapes(s.word(), curve, k, func(c api.Circuit, filled api.Sheet) { look(s.taskOf(curve, k, c, filled)) })
}
