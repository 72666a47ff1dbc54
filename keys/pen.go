package keys

import (
	"sigil/api"
	"sigil/curve"
	"sigil/field"
)

// pen is a key's bytes, as far as they are written.
type pen []byte

// written: the bytes of a right key, in which each number and each list's length has room in a byte.
func written(v api.Vkey) []byte {
	var p pen
	c := v.Circuit
	p.numbers(v.Curve, v.K, c.Fixed, c.Advice, c.Instance)
	p.nodes(scalars(v.Curve), c.Nodes)
	p.numbers(len(c.Gates))
	p.numbers(c.Gates...)
	p.lookups(c.Lookups)
	p.columns(c.Equal)
	p.points(v.Curve, v.Fixed)
	p.points(v.Curve, v.Sigma)
	return p
}

// numbers: a byte each. One below 0 wraps to 256 less.
func (p *pen) numbers(list ...int) {
	for _, n := range list {
		*p = append(*p, byte(n))
	}
}

func (p *pen) nodes(sort int, list []api.Node) {
	p.numbers(len(list))
	for _, n := range list {
		n = named(n)
		p.numbers(n.Op, n.A, n.B)
		*p = append(*p, field.Encode(sort, n.V)...)
	}
}

func (p *pen) lookups(list []api.Lookup) {
	p.numbers(len(list))
	for _, l := range list {
		p.numbers(len(l.Inputs))
		p.numbers(l.Inputs...)
		p.numbers(l.Tables...)
	}
}

func (p *pen) columns(list []api.Column) {
	p.numbers(len(list))
	for _, c := range list {
		p.numbers(c.Kind, c.Col)
	}
}

// points: without their count, which the circuit tells.
func (p *pen) points(c int, list []api.Point) {
	for _, q := range list {
		*p = append(*p, curve.Encode(c, q)...)
	}
}

// named: the node with what its Op names, and nothing else.
func named(n api.Node) api.Node {
	switch n.Op {
	case api.OpConst:
		return api.Node{Op: n.Op, V: n.V}
	case api.OpNeg:
		return api.Node{Op: n.Op, A: n.A}
	case api.OpScale:
		return api.Node{Op: n.Op, A: n.A, V: n.V}
	}
	return api.Node{Op: n.Op, A: n.A, B: n.B}
}
