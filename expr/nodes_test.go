package expr

import (
	"math"
	"math/big"
	"slices"
	"testing"

	"sigil/api"
)

var greatest = api.Elem{math.MaxUint64, math.MaxUint64, math.MaxUint64, math.MaxUint64}

// wrongSorts: numbers that are no field's.
var wrongSorts = []int{-1, 4, -2, 5, 256, -4, math.MinInt, math.MaxInt, 1 << 32, -1 << 32}

// wrongOps: numbers that are no operation's.
var wrongOps = []int{0, 9, -1, -3, 10, 16, 256, 256 + 3, 1<<32 + 1, 1<<32 + 3, 1<<32 + 6, -1 << 32, math.MinInt, math.MaxInt}

// far: numbers that are no place's, and no column's.
var far = []int{-1, -2, -64, -1 << 32, math.MinInt, math.MinInt + 1, math.MaxInt, math.MaxInt - 1, 1 << 31, 1 << 32}

// usedBy: how many nodes an operation uses, as the document says it.
var usedBy = []int{0, 0, 0, 0, 0, 1, 2, 2, 1}

// modulusOf: a field's modulus, as the document says it.
func modulusOf(sort int) *big.Int {
	n, ok := new(big.Int).SetString([]string{
		"16513537",
		"16521217",
		"0x40000000000000000000000000000000224698fc094cf91b992d30ed00000001",
		"0x40000000000000000000000000000000224698fc0994a8dd8c46eb2100000001",
	}[sort], 0)
	if !ok {
		panic(sort)
	}
	return n
}

// bigOf: the number as math/big has it, for answers worked out another way.
func bigOf(e api.Elem) *big.Int {
	n := new(big.Int)
	for i := len(e) - 1; i >= 0; i-- {
		n.Lsh(n, 64).Or(n, new(big.Int).SetUint64(e[i]))
	}
	return n
}

// elemOf: a number from 0 to 2^256 - 1.
func elemOf(n *big.Int) api.Elem {
	if n.Sign() < 0 || n.BitLen() > 256 {
		panic(n.String())
	}
	var e api.Elem
	for i := range e {
		e[i] = new(big.Int).And(new(big.Int).Rsh(n, uint(64*i)), bigOf(api.Elem{math.MaxUint64})).Uint64()
	}
	return e
}

func mod(sort int, n *big.Int) api.Elem { return elemOf(new(big.Int).Mod(n, modulusOf(sort))) }

func shifted(n *big.Int, by int64) api.Elem { return elemOf(new(big.Int).Add(n, big.NewInt(by))) }

// stream gives the same numbers at every run.
type stream uint64

func (s *stream) word() uint64 {
	*s += 0x9e3779b97f4a7c15
	z := uint64(*s)
	z = (z ^ z>>30) * 0xbf58476d1ce4e5b9
	z = (z ^ z>>27) * 0x94d049bb133111eb
	return z ^ z>>31
}

func (s *stream) below(n int) int { return int(s.word() % uint64(n)) }

// elem: a number of any size, often a small one or one around a modulus.
func (s *stream) elem() api.Elem {
	switch s.below(4) {
	case 0:
		return api.Elem{uint64(s.below(3))}
	case 1:
		return shifted(modulusOf(s.below(4)), int64(s.below(3)-1))
	}
	return api.Elem{s.word(), s.word(), s.word(), s.word()}
}

func (s *stream) elems(n int) []api.Elem {
	list := make([]api.Elem, n)
	for i := range list {
		list[i] = s.elem()
	}
	return list
}

// any: a number of any size, often a small one.
func (s *stream) any() int {
	switch s.below(4) {
	case 0:
		return int(s.word())
	case 1:
		return far[s.below(len(far))]
	}
	return s.below(12) - 2
}

// node: a node that may stand at that place, of few columns; what its operation doesn't name is anything.
func (s *stream) node(place int) api.Node {
	n := api.Node{Op: 1 + s.below(8), A: s.any(), B: s.any(), V: s.elem()}
	if place == 0 {
		n.Op = 1 + s.below(4)
	}
	switch {
	case n.Op >= api.OpFixed && n.Op <= api.OpInstance:
		n.A, n.B = s.below(3), s.below(7)-3
	case usedBy[n.Op] == 2:
		n.A, n.B = s.below(place), s.below(place)
	case usedBy[n.Op] == 1:
		n.A = s.below(place)
	}
	return n
}

// nodes: so many ordered nodes.
func (s *stream) nodes(n int) []api.Node {
	list := make([]api.Node, n)
	for i := range list {
		list[i] = s.node(i)
	}
	return list
}

// wild: so many nodes of any numbers.
func (s *stream) wild(n int) []api.Node {
	list := make([]api.Node, n)
	for i := range list {
		list[i] = api.Node{Op: s.any(), A: s.any(), B: s.any(), V: s.elem()}
	}
	return list
}

// isOrdered: as the document says it.
func isOrdered(nodes []api.Node) bool {
	for i, n := range nodes {
		if n.Op < 1 || n.Op > 8 {
			return false
		}
		for _, place := range []int{n.A, n.B}[:usedBy[n.Op]] {
			if place < 0 || place >= i {
				return false
			}
		}
	}
	return true
}

func isQuery(n api.Node) bool { return n.Op >= 2 && n.Op <= 4 }

func queryOf(n api.Node) api.Query { return api.Query{Kind: n.Op, Col: n.A, Rot: n.B} }

// unordered: lists that differ from ordered nodes in one number, so that they aren't ordered any more.
func unordered(nodes []api.Node, look func(list []api.Node)) {
	for i, n := range nodes {
		changed := slices.Clone(nodes)
		with := func(n api.Node) {
			changed[i] = n
			look(changed)
		}
		for _, op := range wrongOps {
			with(api.Node{Op: op, A: n.A, B: n.B, V: n.V})
		}
		for _, place := range append([]int{i, i + 1, len(nodes)}, far...) {
			if usedBy[n.Op] > 0 {
				with(api.Node{Op: n.Op, A: place, B: n.B, V: n.V})
			}
			if usedBy[n.Op] > 1 {
				with(api.Node{Op: n.Op, A: n.A, B: place, V: n.V})
			}
		}
	}
}

// example: the document's own.
func example() []api.Node {
	return []api.Node{{Op: api.OpAdvice}, {Op: api.OpConst, V: api.Elem{3}}, {Op: api.OpMul, A: 0, B: 1}}
}

// eachOp: a list that has every operation.
func eachOp() []api.Node {
	return []api.Node{
		{Op: api.OpConst, V: api.Elem{7}},
		{Op: api.OpFixed, A: 1, B: 3},
		{Op: api.OpAdvice, A: 2, B: -3},
		{Op: api.OpInstance, A: 3, B: 0},
		{Op: api.OpNeg, A: 3},
		{Op: api.OpAdd, A: 4, B: 0},
		{Op: api.OpMul, A: 5, B: 2},
		{Op: api.OpScale, A: 6, V: api.Elem{9}},
		{Op: api.OpAdd, A: 7, B: 7},
	}
}

// squares: an advice column, and so many squares each of the last.
func squares(n int) []api.Node {
	list := []api.Node{{Op: api.OpAdvice}}
	for i := range n {
		list = append(list, api.Node{Op: api.OpMul, A: i, B: i})
	}
	return list
}

func TestTheNodesAreOrdered(t *testing.T) {
	s := stream(1)
	for _, list := range [][]api.Node{nil, example(), eachOp(), squares(50), s.nodes(100)} {
		if !isOrdered(list) {
			t.Errorf("%v: not ordered", list)
		}
		unordered(list, func(changed []api.Node) {
			if isOrdered(changed) {
				t.Errorf("%v: ordered", changed)
			}
		})
	}
}
